/-
  The law ZedDivides holds: for every input the call returns true, and each argument reads afterwards as it read before. No condition.
-/
import Derived.Test.YthnffjgbglncbaaRdivmod
import Derived.Test.YthnffjgbglncbaaZref4p
import Derived.Test.YthnffjgbglncbaaZref4f
import Derived.Test.YthnffjgbglncbaaZref4t
import Derived.Test.YthnffjgbglncbaaZshownP
import Derived.Test.YthnffjgbglncbaaSmall
import Derived.ProofKit
import Derived.SizedLaws
import Derived.OpenShut
import Derived.Test.YthnffjgbglncbaaZint
import Derived.Lib.SmallJoins
namespace Go.Proofs.Ythnffjgbglncbaa
section
open Go.RowKit
set_option linter.unusedVariables false

def GrRel (w : World) (G : Nat) (av bv : Value) (N M : Nat) (wr : World) : Prop :=
  ∃ A n c A2 n2 c2, av = .slice A n c ∧ bv = .slice A2 n2 c2 ∧ Rd wr wr.heap.size A n c (dg Wd N) ∧ Rd wr wr.heap.size A2 n2 c2 (dg Wd M) ∧ Nat.gcd N M = G ∧ n ≤ 1000000 ∧ n2 ≤ 1000000 ∧ Below w.heap.size w wr

set_option maxHeartbeats 2000000 in
theorem RGcd_any (A A2 : Option Addr) (n c n2 c2 : Nat) (l m : List Int) (w : World) (h : Rd w w.heap.size A n c l) (h2 : Rd w w.heap.size A2 n2 c2 m) (hn : n ≤ 1000000) (hn2 : n2 ≤ 1000000) :
    Calls Try.prog 78 #[.slice A n c, .slice A2 n2 c2] w (Out w (Nat.gcd (vl Wd l) (vl Wd m))) := by
  have hNn := dg_len_le Wd2 (h.len ▸ vl_lt h.lim : vl Wd l < Wd ^ n)
  have hMn := dg_len_le Wd2 (h2.len ▸ vl_lt h2.lim : vl Wd m < Wd ^ n2)
  generalize hN : vl Wd l = N at *
  generalize hM : vl Wd m = M at *
  have HN := Lib.hid hN; clear hN
  have HM := Lib.hid hM; clear hM
  generalize hG : Nat.gcd N M = G
  have HG := Lib.hid hG; clear hG
  go_enter Try.func78, Try.ntmps78
  go_wp2_with fail
  refine (RNorm_any _ _ _ _ _ h (by omega)).mono ?_
  rintro e w1 ⟨A', n', c', rfl, hrd, hb1⟩
  rw [HN.out] at hrd
  go_wp2_with fail
  refine (RNorm_any _ _ _ _ _ ((h2.below hb1).more hb1.size) (by omega)).mono ?_
  rintro e w2 ⟨A2', n2', c2', rfl, hrd2, hb2⟩
  rw [HM.out] at hrd2
  have hb2' := hb1.trans (hb2.mono hb1.size)
  have hrdn := (hrd.below hb2).more hb2.size
  have hl1 := hrd.len
  have hl2 := hrd2.len
  have R0 : GrRel w G (.slice A' n' c') (.slice A2' n2' c2') N M w2 := ⟨_, _, _, _, _, _, rfl, rfl, hrdn, hrd2, HG.out, by omega, by omega, hb2'⟩
  clear h h2 hrd hrd2 hb1 hb2 hb2' hrdn hl1 hl2 hNn hMn hn hn2
  go_wp2
  go_loopg [0, 1, 5, 6, 7] M (fun k av bv _ _ _ wr => ∃ a : Nat, GrRel w G av bv a k wr)
  case atStart => exact ⟨N, R0⟩
  case round =>
    clear R0
    obtain ⟨a, A3, n3, c3, A4, n4, c4, rfl, rfl, k1, k2, k3, k4, k5, k6⟩ := hrel
    have HK3 := Lib.hid k3; clear k3
    have hl4 := k2.len
    by_cases h0 : n4 = 0
    · subst h0
      have hg0 : gk = 0 := (dg_eq_nil Wd2).1 (List.eq_nil_of_length_eq_zero hl4)
      have HG0 := Lib.hid hg0; clear hg0 hl4
      go_wp2
      go_ret
      refine ⟨_, _, _, rfl, ?_, k6⟩
      have := HK3.out
      rw [HG0.out, Nat.gcd_zero_right] at this
      rw [← this]
      exact k1
    · have hgp : 0 < gk := by
        rcases Nat.eq_zero_or_pos gk with h | h
        · exfalso; rw [h, dg_zero] at hl4; exact h0 hl4.symm
        · exact h
      have HL4 := Lib.hid hl4; clear hl4
      have hn4 : (0 : Int) < n4 := by omega
      go_wp2_with fail
      refine (RDivMod_any _ _ _ _ _ _ _ _ _ k1 k2 k4 k5 (by rw [vl_dg Wd2]; exact hgp)).mono ?_
      rintro e w3 ⟨A5, n5, c5, A6, n6, c6, rfl, z1, z2, z3⟩
      rw [vl_dg Wd2, vl_dg Wd2] at z2
      have hlt : a % gk < gk := Nat.mod_lt _ hgp
      have hl6 := z2.len
      have hle6 := dg_len_mono Wd2 (Nat.le_of_lt hlt)
      have R : GrRel w G (.slice A4 n4 c4) (.slice A6 n6 c6) gk (a % gk) w3 := ⟨_, _, _, _, _, _, rfl, rfl, (k2.below z3).more z3.size, z2, by rw [← HK3.out, Nat.gcd_comm a gk, Nat.gcd_rec gk a, Nat.gcd_comm], k5, by have := HL4.out; omega, k6.trans (z3.mono k6.size)⟩
      clear hl6 hle6 z1 z2 z3 k1 k2 k6
      go_wp2
      go_roundg (a % gk)
      case measure => exact hlt
      case rel => exact ⟨gk, R⟩
end
end Go.Proofs.Ythnffjgbglncbaa
namespace Go.Proofs.Ythnffjgbglncbaa
section
open Go.RowKit
set_option linter.unusedVariables false

theorem RDivModZ_any {b b2 : Bool} {A A2 : Option Addr} {n c n2 c2 : Nat} {X Y : Int} {j j2 : Nat} {w : World} (h : Zr w b A n c X j) (h2 : Zr w b2 A2 n2 c2 Y j2) (hY : Y ≠ 0) (k : Nat) (hk : j + 1 ≤ k) (hk2 : j2 + 1 ≤ k) (hj : k ≤ 10000) :
    Calls Try.prog 42 #[.agg #[.bool b, .slice A n c], .agg #[.bool b2, .slice A2 n2 c2]] w (DqPost w (X / Y) (X % Y) (k + 1)) := by
  cases hng : ngB (zi (ngB X) (X.natAbs % Y.natAbs))
  · exact RDivModZ_plain h h2 hY k hk hk2 hj hng
  · cases hny : ngB Y
    · exact RDivModZ_moref h h2 hY k hk hk2 hj hng hny
    · exact RDivModZ_moret h h2 hY k hk hk2 hj hng hny

/-- The greatest integer that is not above a quotient. -/
def flI (X Y : Int) : Int := if Y < 0 then (-X) / (-Y) else X / Y
theorem rd_fl {X Y : Int} (hY : Y ≠ 0) : roundI X Y = flI (X + X + Y) (Y + Y) := by
  have key : ∀ X Y : Int, 0 < Y → rdQ X Y = (X + X + Y) / (Y + Y) := fun X Y h => by
    have h1 := Int.emod_add_mul_ediv X Y
    have h2 := Int.emod_nonneg X (show Y ≠ 0 by omega)
    have h3 := Int.emod_lt_of_pos X h
    unfold rdQ
    split
    · refine ((ed_unique (r := X % Y + X % Y - Y) (by omega) ?_ (by omega) (by omega)).1).symm
      rw [Int.add_mul, Int.mul_add, Int.mul_one]; omega
    · refine ((ed_unique (r := X % Y + X % Y + Y) (by omega) ?_ (by omega) (by omega)).1).symm
      rw [Int.add_mul]; omega
  unfold roundI flI
  by_cases h : Y < 0
  · rw [if_pos h, if_pos (by omega), key _ _ (by omega)]; congr 1 <;> omega
  · rw [if_neg h, if_neg (by omega), key _ _ (by omega)]
theorem up_fl {X Y : Int} (hY : Y ≠ 0) : upI X Y = -flI (-X) Y := by
  have key : ∀ X Y : Int, 0 < Y → upQ X Y = -((-X) / Y) := fun X Y h => by
    have h1 := Int.emod_add_mul_ediv X Y
    have h2 := Int.emod_nonneg X (show Y ≠ 0 by omega)
    have h3 := Int.emod_lt_of_pos X h
    unfold upQ
    split
    · have := (ed_unique (X := -X) (Y := Y) (q := -(X / Y + 1)) (r := Y - X % Y) (by omega) (by rw [Int.mul_neg, Int.mul_add, Int.mul_one]; omega) (by omega) (by omega)).1
      omega
    · have := (ed_unique (X := -X) (Y := Y) (q := -(X / Y)) (r := 0) (by omega) (by rw [Int.mul_neg]; omega) (by omega) (by omega)).1
      omega
  unfold upI flI
  by_cases h : Y < 0
  · rw [if_pos h, if_pos h, key _ _ (by omega)]
  · rw [if_neg h, if_neg h, key _ _ (by omega)]

set_option maxRecDepth 100000 in
set_option maxHeartbeats 8000000 in
theorem Rfloor_any {b b2 : Bool} {A A2 : Option Addr} {n c n2 c2 : Nat} {X Y : Int} {j j2 : Nat} {w : World} (h : Zr w b A n c X j) (h2 : Zr w b2 A2 n2 c2 Y j2) (hY : Y ≠ 0) (k : Nat) (hk : j + 1 ≤ k) (hk2 : j2 + 1 ≤ k) (hj : k ≤ 10000) :
    Calls Try.prog 76 #[.agg #[.bool b, .slice A n c], .agg #[.bool b2, .slice A2 n2 c2]] w (OutZ w (flI X Y) (k + 1)) := by
  have hbs := sgnI_is Y
  by_cases hn : Y < 0
  · have hsg := sgnI_lt0.2 hn
    rw [show flI X Y = (-X) / (-Y) by unfold flI; rw [if_pos hn]]
    have HY := Lib.hid hY; clear hY hn
    generalize hS9 : sgnI Y = S at *
    have HS := Lib.hid hS9; clear hS9
    go_enter Try.func76, Try.ntmps76
    go_wp2_with fail
    obtain ⟨hb, x_a, x_b, x_r⟩ := box3 w b A n c b2 A2 n2 c2 false none 0 0
    generalize ((w.alloc (.cells #[.bool b, .slice A n c] 24)).alloc (.cells #[.bool b2, .slice A2 n2 c2] 24)).alloc (.cells #[.bool false, .slice none 0 0] 24) = v1 at *
    replace h := h.keep hb
    replace h2 := h2.keep hb
    have q_a0 := x_a.c0; have q_a1 := x_a.c1; have f_a0 := x_a.fr 0; have f_a1 := x_a.fr 1
    have q_b0 := x_b.c0; have q_b1 := x_b.c1; have f_b0 := x_b.fr 0; have f_b1 := x_b.fr 1
    have q_r0 := x_r.c0; have q_r1 := x_r.c1; have f_r0 := x_r.fr 0; have f_r1 := x_r.fr 1
    go_wp2_with fail
    with_reducible refine (RSignZ_any h2 (by omega)).mono ?_
    rintro e v2 ⟨rfl, hb1⟩
    replace x_a := x_a.keep hb1
    replace x_b := x_b.keep hb1
    replace x_r := x_r.keep hb1
    replace h := h.keep hb1
    replace h2 := h2.keep hb1
    replace hb := bthen hb hb1
    clear hb1
    replace q_a0 := x_a.c0; replace q_a1 := x_a.c1; replace f_a0 := x_a.fr 0; replace f_a1 := x_a.fr 1
    replace q_b0 := x_b.c0; replace q_b1 := x_b.c1; replace f_b0 := x_b.fr 0; replace f_b1 := x_b.fr 1
    replace q_r0 := x_r.c0; replace q_r1 := x_r.c1; replace f_r0 := x_r.fr 0; replace f_r1 := x_r.fr 1
    rw [HS.out]
    go_wp2_with fail
    with_reducible refine (RNegZ_any h j (Nat.le_refl _) (by omega)).mono ?_
    rintro e v3 ⟨A3, n3, c3, rfl, za, hb1⟩
    replace x_a := x_a.keep hb1
    replace x_b := x_b.keep hb1
    replace x_r := x_r.keep hb1
    replace h := h.keep hb1
    replace h2 := h2.keep hb1
    replace hb := bthen hb hb1
    clear hb1
    replace q_a0 := x_a.c0; replace q_a1 := x_a.c1; replace f_a0 := x_a.fr 0; replace f_a1 := x_a.fr 1
    replace q_b0 := x_b.c0; replace q_b1 := x_b.c1; replace f_b0 := x_b.fr 0; replace f_b1 := x_b.fr 1
    replace q_r0 := x_r.c0; replace q_r1 := x_r.c1; replace f_r0 := x_r.fr 0; replace f_r1 := x_r.fr 1
    clear h
    go_wp2_with fail
    replace x_b := x_b.aside (b' := (ngB (-X))) (A' := A3) (n' := n3) (c' := c3) (g := w.heap.size) (by omega)
    replace x_r := x_r.aside (b' := (ngB (-X))) (A' := A3) (n' := n3) (c' := c3) (g := w.heap.size) (by omega)
    replace h2 := h2.put (b' := (ngB (-X))) (A' := A3) (n' := n3) (c' := c3) x_a
    replace za := za.put (b' := (ngB (-X))) (A' := A3) (n' := n3) (c' := c3) x_a
    replace hb := put_below (g := w.heap.size) hb (by omega) (.bool (ngB (-X))) (.slice A3 n3 c3)
    replace x_a := x_a.put (ngB (-X)) A3 n3 c3
    clear q_a0 q_a1 f_a0 f_a1 q_b0 q_b1 f_b0 f_b1 q_r0 q_r1 f_r0 f_r1
    generalize (v3.setCell ⟨w.heap.size, 0, none⟩ (.bool (ngB (-X)))).setCell ⟨w.heap.size, 1, none⟩ (.slice A3 n3 c3) = v4 at *
    have q_a0 := x_a.c0; have q_a1 := x_a.c1; have f_a0 := x_a.fr 0; have f_a1 := x_a.fr 1
    have q_b0 := x_b.c0; have q_b1 := x_b.c1; have f_b0 := x_b.fr 0; have f_b1 := x_b.fr 1
    have q_r0 := x_r.c0; have q_r1 := x_r.c1; have f_r0 := x_r.fr 0; have f_r1 := x_r.fr 1
    with_reducible refine (RNegZ_any h2 j2 (Nat.le_refl _) (by omega)).mono ?_
    rintro e v5 ⟨A4, n4, c4, rfl, zb, hb1⟩
    replace x_a := x_a.keep hb1
    replace x_b := x_b.keep hb1
    replace x_r := x_r.keep hb1
    replace h2 := h2.keep hb1
    replace za := za.keep hb1
    replace hb := bthen hb hb1
    clear hb1
    replace q_a0 := x_a.c0; replace q_a1 := x_a.c1; replace f_a0 := x_a.fr 0; replace f_a1 := x_a.fr 1
    replace q_b0 := x_b.c0; replace q_b1 := x_b.c1; replace f_b0 := x_b.fr 0; replace f_b1 := x_b.fr 1
    replace q_r0 := x_r.c0; replace q_r1 := x_r.c1; replace f_r0 := x_r.fr 0; replace f_r1 := x_r.fr 1
    clear h2
    go_wp2_with fail
    replace x_a := x_a.aside (b' := (ngB (-Y))) (A' := A4) (n' := n4) (c' := c4) (g := w.heap.size + 1) (by omega)
    replace x_r := x_r.aside (b' := (ngB (-Y))) (A' := A4) (n' := n4) (c' := c4) (g := w.heap.size + 1) (by omega)
    replace za := za.put (b' := (ngB (-Y))) (A' := A4) (n' := n4) (c' := c4) x_b
    replace zb := zb.put (b' := (ngB (-Y))) (A' := A4) (n' := n4) (c' := c4) x_b
    replace hb := put_below (g := w.heap.size + 1) hb (by omega) (.bool (ngB (-Y))) (.slice A4 n4 c4)
    replace x_b := x_b.put (ngB (-Y)) A4 n4 c4
    clear q_a0 q_a1 f_a0 f_a1 q_b0 q_b1 f_b0 f_b1 q_r0 q_r1 f_r0 f_r1
    generalize (v5.setCell ⟨w.heap.size + 1, 0, none⟩ (.bool (ngB (-Y)))).setCell ⟨w.heap.size + 1, 1, none⟩ (.slice A4 n4 c4) = v6 at *
    have q_a0 := x_a.c0; have q_a1 := x_a.c1; have f_a0 := x_a.fr 0; have f_a1 := x_a.fr 1
    have q_b0 := x_b.c0; have q_b1 := x_b.c1; have f_b0 := x_b.fr 0; have f_b1 := x_b.fr 1
    have q_r0 := x_r.c0; have q_r1 := x_r.c1; have f_r0 := x_r.fr 0; have f_r1 := x_r.fr 1
    skip
    with_reducible refine (RDivModZ_any za.zr zb.zr (by have := HY.out; omega) k hk hk2 hj).mono ?_
    rintro e v7 ⟨A5, n5, c5, A6, n6, c6, rfl, z_q, z_s, hb1⟩
    replace x_a := x_a.keep hb1
    replace x_b := x_b.keep hb1
    replace x_r := x_r.keep hb1
    replace za := za.keep hb1
    replace zb := zb.keep hb1
    replace hb := bthen hb hb1
    clear hb1
    replace q_a0 := x_a.c0; replace q_a1 := x_a.c1; replace f_a0 := x_a.fr 0; replace f_a1 := x_a.fr 1
    replace q_b0 := x_b.c0; replace q_b1 := x_b.c1; replace f_b0 := x_b.fr 0; replace f_b1 := x_b.fr 1
    replace q_r0 := x_r.c0; replace q_r1 := x_r.c1; replace f_r0 := x_r.fr 0; replace f_r1 := x_r.fr 1
    generalize (-X) / (-Y) = Q at *
    generalize (-X) % (-Y) = RR at *
    have y_r := (x_r.alloc (.cells #[.bool (ngB Q), .slice A5 n5 c5] 24)).alloc (.cells #[.bool (ngB RR), .slice A6 n6 c6] 24)
    have y_0 := y_r.c0; have y_1 := y_r.c1; have y_2 := y_r.fr 0; have y_3 := y_r.fr 1
    go_wp2
    clear y_r y_0 y_1 y_2 y_3
    have l_a_q := x_a.lt
    have l_b_q := x_b.lt
    have l_r_q := x_r.lt
    have e_q : w.heap.size ≤ v7.heap.size := hb.size
    obtain ⟨hb1, x_q, x_s⟩ := box2 v7 (ngB Q) A5 n5 c5 (ngB RR) A6 n6 c6
    replace x_a := x_a.keep hb1
    replace x_b := x_b.keep hb1
    replace x_r := x_r.keep hb1
    replace za := za.keep hb1
    replace zb := zb.keep hb1
    replace z_q := z_q.keep hb1
    replace z_s := z_s.keep hb1
    replace hb := bthen hb hb1
    clear hb1
    replace q_a0 := x_a.c0; replace q_a1 := x_a.c1; replace f_a0 := x_a.fr 0; replace f_a1 := x_a.fr 1
    replace q_b0 := x_b.c0; replace q_b1 := x_b.c1; replace f_b0 := x_b.fr 0; replace f_b1 := x_b.fr 1
    replace q_r0 := x_r.c0; replace q_r1 := x_r.c1; replace f_r0 := x_r.fr 0; replace f_r1 := x_r.fr 1
    clear q_a0 q_a1 f_a0 f_a1 q_b0 q_b1 f_b0 f_b1 q_r0 q_r1 f_r0 f_r1
    generalize (v7.alloc (.cells #[.bool (ngB Q), .slice A5 n5 c5] 24)).alloc (.cells #[.bool (ngB RR), .slice A6 n6 c6] 24) = v8 at *
    have q_a0 := x_a.c0; have q_a1 := x_a.c1; have f_a0 := x_a.fr 0; have f_a1 := x_a.fr 1
    have q_b0 := x_b.c0; have q_b1 := x_b.c1; have f_b0 := x_b.fr 0; have f_b1 := x_b.fr 1
    have q_r0 := x_r.c0; have q_r1 := x_r.c1; have f_r0 := x_r.fr 0; have f_r1 := x_r.fr 1
    have q_q0 := x_q.c0; have q_q1 := x_q.c1; have f_q0 := x_q.fr 0; have f_q1 := x_q.fr 1
    have q_s0 := x_s.c0; have q_s1 := x_s.c1; have f_s0 := x_s.fr 0; have f_s1 := x_s.fr 1
    skip
    replace x_a := x_a.aside (b' := (ngB Q)) (A' := A5) (n' := n5) (c' := c5) (g := w.heap.size + 1 + 1) (by omega)
    replace x_b := x_b.aside (b' := (ngB Q)) (A' := A5) (n' := n5) (c' := c5) (g := w.heap.size + 1 + 1) (by omega)
    replace x_q := x_q.aside (b' := (ngB Q)) (A' := A5) (n' := n5) (c' := c5) (g := w.heap.size + 1 + 1) (by omega)
    replace x_s := x_s.aside (b' := (ngB Q)) (A' := A5) (n' := n5) (c' := c5) (g := w.heap.size + 1 + 1) (by omega)
    replace za := za.put (b' := (ngB Q)) (A' := A5) (n' := n5) (c' := c5) x_r
    replace zb := zb.put (b' := (ngB Q)) (A' := A5) (n' := n5) (c' := c5) x_r
    replace z_q := z_q.put (b' := (ngB Q)) (A' := A5) (n' := n5) (c' := c5) x_r
    replace z_s := z_s.put (b' := (ngB Q)) (A' := A5) (n' := n5) (c' := c5) x_r
    replace hb := put_below (g := w.heap.size + 1 + 1) hb (by omega) (.bool (ngB Q)) (.slice A5 n5 c5)
    replace x_r := x_r.put (ngB Q) A5 n5 c5
    clear q_a0 q_a1 f_a0 f_a1 q_b0 q_b1 f_b0 f_b1 q_r0 q_r1 f_r0 f_r1 q_q0 q_q1 f_q0 f_q1 q_s0 q_s1 f_s0 f_s1
    generalize (v8.setCell ⟨w.heap.size + 1 + 1, 0, none⟩ (.bool (ngB Q))).setCell ⟨w.heap.size + 1 + 1, 1, none⟩ (.slice A5 n5 c5) = v9 at *
    have q_a0 := x_a.c0; have q_a1 := x_a.c1; have f_a0 := x_a.fr 0; have f_a1 := x_a.fr 1
    have q_b0 := x_b.c0; have q_b1 := x_b.c1; have f_b0 := x_b.fr 0; have f_b1 := x_b.fr 1
    have q_r0 := x_r.c0; have q_r1 := x_r.c1; have f_r0 := x_r.fr 0; have f_r1 := x_r.fr 1
    have q_q0 := x_q.c0; have q_q1 := x_q.c1; have f_q0 := x_q.fr 0; have f_q1 := x_q.fr 1
    have q_s0 := x_s.c0; have q_s1 := x_s.c1; have f_s0 := x_s.fr 0; have f_s1 := x_s.fr 1
    refine bodyPost_ret (v := .agg #[.bool (ngB Q), .slice A5 n5 c5]) (by simp [results, Try.results76, go_sem, q_r0, q_r1]) rfl ?_
    exact ⟨_, _, _, rfl, z_q, hb⟩
  · have hsg : ¬ sgnI Y < 0 := mt sgnI_lt0.1 hn
    rw [show flI X Y = X / Y by unfold flI; rw [if_neg hn]]
    have HY := Lib.hid hY; clear hY hn
    generalize hS9 : sgnI Y = S at *
    have HS := Lib.hid hS9; clear hS9
    go_enter Try.func76, Try.ntmps76
    go_wp2_with fail
    obtain ⟨hb, x_a, x_b, x_r⟩ := box3 w b A n c b2 A2 n2 c2 false none 0 0
    generalize ((w.alloc (.cells #[.bool b, .slice A n c] 24)).alloc (.cells #[.bool b2, .slice A2 n2 c2] 24)).alloc (.cells #[.bool false, .slice none 0 0] 24) = v1 at *
    replace h := h.keep hb
    replace h2 := h2.keep hb
    have q_a0 := x_a.c0; have q_a1 := x_a.c1; have f_a0 := x_a.fr 0; have f_a1 := x_a.fr 1
    have q_b0 := x_b.c0; have q_b1 := x_b.c1; have f_b0 := x_b.fr 0; have f_b1 := x_b.fr 1
    have q_r0 := x_r.c0; have q_r1 := x_r.c1; have f_r0 := x_r.fr 0; have f_r1 := x_r.fr 1
    go_wp2_with fail
    with_reducible refine (RSignZ_any h2 (by omega)).mono ?_
    rintro e v2 ⟨rfl, hb1⟩
    replace x_a := x_a.keep hb1
    replace x_b := x_b.keep hb1
    replace x_r := x_r.keep hb1
    replace h := h.keep hb1
    replace h2 := h2.keep hb1
    replace hb := bthen hb hb1
    clear hb1
    replace q_a0 := x_a.c0; replace q_a1 := x_a.c1; replace f_a0 := x_a.fr 0; replace f_a1 := x_a.fr 1
    replace q_b0 := x_b.c0; replace q_b1 := x_b.c1; replace f_b0 := x_b.fr 0; replace f_b1 := x_b.fr 1
    replace q_r0 := x_r.c0; replace q_r1 := x_r.c1; replace f_r0 := x_r.fr 0; replace f_r1 := x_r.fr 1
    rw [HS.out]
    go_wp2_with fail
    with_reducible refine (RDivModZ_any h h2 HY.out k hk hk2 hj).mono ?_
    rintro e v3 ⟨A5, n5, c5, A6, n6, c6, rfl, z_q, z_s, hb1⟩
    replace x_a := x_a.keep hb1
    replace x_b := x_b.keep hb1
    replace x_r := x_r.keep hb1
    replace h := h.keep hb1
    replace h2 := h2.keep hb1
    replace hb := bthen hb hb1
    clear hb1
    replace q_a0 := x_a.c0; replace q_a1 := x_a.c1; replace f_a0 := x_a.fr 0; replace f_a1 := x_a.fr 1
    replace q_b0 := x_b.c0; replace q_b1 := x_b.c1; replace f_b0 := x_b.fr 0; replace f_b1 := x_b.fr 1
    replace q_r0 := x_r.c0; replace q_r1 := x_r.c1; replace f_r0 := x_r.fr 0; replace f_r1 := x_r.fr 1
    generalize X / Y = Q at *
    generalize X % Y = RR at *
    have y_r := (x_r.alloc (.cells #[.bool (ngB Q), .slice A5 n5 c5] 24)).alloc (.cells #[.bool (ngB RR), .slice A6 n6 c6] 24)
    have y_0 := y_r.c0; have y_1 := y_r.c1; have y_2 := y_r.fr 0; have y_3 := y_r.fr 1
    go_wp2
    clear y_r y_0 y_1 y_2 y_3
    have l_a_q := x_a.lt
    have l_b_q := x_b.lt
    have l_r_q := x_r.lt
    have e_q : w.heap.size ≤ v3.heap.size := hb.size
    obtain ⟨hb1, x_q, x_s⟩ := box2 v3 (ngB Q) A5 n5 c5 (ngB RR) A6 n6 c6
    replace x_a := x_a.keep hb1
    replace x_b := x_b.keep hb1
    replace x_r := x_r.keep hb1
    replace h := h.keep hb1
    replace h2 := h2.keep hb1
    replace z_q := z_q.keep hb1
    replace z_s := z_s.keep hb1
    replace hb := bthen hb hb1
    clear hb1
    replace q_a0 := x_a.c0; replace q_a1 := x_a.c1; replace f_a0 := x_a.fr 0; replace f_a1 := x_a.fr 1
    replace q_b0 := x_b.c0; replace q_b1 := x_b.c1; replace f_b0 := x_b.fr 0; replace f_b1 := x_b.fr 1
    replace q_r0 := x_r.c0; replace q_r1 := x_r.c1; replace f_r0 := x_r.fr 0; replace f_r1 := x_r.fr 1
    clear q_a0 q_a1 f_a0 f_a1 q_b0 q_b1 f_b0 f_b1 q_r0 q_r1 f_r0 f_r1
    generalize (v3.alloc (.cells #[.bool (ngB Q), .slice A5 n5 c5] 24)).alloc (.cells #[.bool (ngB RR), .slice A6 n6 c6] 24) = v4 at *
    have q_a0 := x_a.c0; have q_a1 := x_a.c1; have f_a0 := x_a.fr 0; have f_a1 := x_a.fr 1
    have q_b0 := x_b.c0; have q_b1 := x_b.c1; have f_b0 := x_b.fr 0; have f_b1 := x_b.fr 1
    have q_r0 := x_r.c0; have q_r1 := x_r.c1; have f_r0 := x_r.fr 0; have f_r1 := x_r.fr 1
    have q_q0 := x_q.c0; have q_q1 := x_q.c1; have f_q0 := x_q.fr 0; have f_q1 := x_q.fr 1
    have q_s0 := x_s.c0; have q_s1 := x_s.c1; have f_s0 := x_s.fr 0; have f_s1 := x_s.fr 1
    skip
    replace x_a := x_a.aside (b' := (ngB Q)) (A' := A5) (n' := n5) (c' := c5) (g := w.heap.size + 1 + 1) (by omega)
    replace x_b := x_b.aside (b' := (ngB Q)) (A' := A5) (n' := n5) (c' := c5) (g := w.heap.size + 1 + 1) (by omega)
    replace x_q := x_q.aside (b' := (ngB Q)) (A' := A5) (n' := n5) (c' := c5) (g := w.heap.size + 1 + 1) (by omega)
    replace x_s := x_s.aside (b' := (ngB Q)) (A' := A5) (n' := n5) (c' := c5) (g := w.heap.size + 1 + 1) (by omega)
    replace h := h.put (b' := (ngB Q)) (A' := A5) (n' := n5) (c' := c5) x_r
    replace h2 := h2.put (b' := (ngB Q)) (A' := A5) (n' := n5) (c' := c5) x_r
    replace z_q := z_q.put (b' := (ngB Q)) (A' := A5) (n' := n5) (c' := c5) x_r
    replace z_s := z_s.put (b' := (ngB Q)) (A' := A5) (n' := n5) (c' := c5) x_r
    replace hb := put_below (g := w.heap.size + 1 + 1) hb (by omega) (.bool (ngB Q)) (.slice A5 n5 c5)
    replace x_r := x_r.put (ngB Q) A5 n5 c5
    clear q_a0 q_a1 f_a0 f_a1 q_b0 q_b1 f_b0 f_b1 q_r0 q_r1 f_r0 f_r1 q_q0 q_q1 f_q0 f_q1 q_s0 q_s1 f_s0 f_s1
    generalize (v4.setCell ⟨w.heap.size + 1 + 1, 0, none⟩ (.bool (ngB Q))).setCell ⟨w.heap.size + 1 + 1, 1, none⟩ (.slice A5 n5 c5) = v5 at *
    have q_a0 := x_a.c0; have q_a1 := x_a.c1; have f_a0 := x_a.fr 0; have f_a1 := x_a.fr 1
    have q_b0 := x_b.c0; have q_b1 := x_b.c1; have f_b0 := x_b.fr 0; have f_b1 := x_b.fr 1
    have q_r0 := x_r.c0; have q_r1 := x_r.c1; have f_r0 := x_r.fr 0; have f_r1 := x_r.fr 1
    have q_q0 := x_q.c0; have q_q1 := x_q.c1; have f_q0 := x_q.fr 0; have f_q1 := x_q.fr 1
    have q_s0 := x_s.c0; have q_s1 := x_s.c1; have f_s0 := x_s.fr 0; have f_s1 := x_s.fr 1
    refine bodyPost_ret (v := .agg #[.bool (ngB Q), .slice A5 n5 c5]) (by simp [results, Try.results76, go_sem, q_r0, q_r1]) rfl ?_
    exact ⟨_, _, _, rfl, z_q, hb⟩

set_option maxRecDepth 100000 in
set_option maxHeartbeats 4000000 in
theorem RRoundZ_zero {b b2 : Bool} {A A2 : Option Addr} {n c n2 c2 : Nat} {X Y : Int} {j j2 : Nat} {w : World} (h : Zr w b A n c X j) (h2 : Zr w b2 A2 n2 c2 Y j2) (hY : Y = 0) (hj2 : j2 ≤ 10000) :
    Calls Try.prog 44 #[.agg #[.bool b, .slice A n c], .agg #[.bool b2, .slice A2 n2 c2]] w fun e w' => e = .returned (.tuple #[.agg #[.bool false, .slice none 0 0], .bool false]) ∧ Below w.heap.size w w' := by
  have hsg : sgnI Y = 0 := sgnI_eq0.2 hY
  have HSG := Lib.hid hsg; clear hsg hY
  go_enter Try.func44, Try.ntmps44
  go_wp2_with fail
  obtain ⟨hb, x_a, x_b, x_r⟩ := box3 w b A n c b2 A2 n2 c2 false none 0 0
  generalize ((w.alloc (.cells #[.bool b, .slice A n c] 24)).alloc (.cells #[.bool b2, .slice A2 n2 c2] 24)).alloc (.cells #[.bool false, .slice none 0 0] 24) = v1 at *
  replace h := h.keep hb
  replace h2 := h2.keep hb
  have q_a0 := x_a.c0; have q_a1 := x_a.c1; have f_a0 := x_a.fr 0; have f_a1 := x_a.fr 1
  have q_b0 := x_b.c0; have q_b1 := x_b.c1; have f_b0 := x_b.fr 0; have f_b1 := x_b.fr 1
  have q_r0 := x_r.c0; have q_r1 := x_r.c1; have f_r0 := x_r.fr 0; have f_r1 := x_r.fr 1
  go_wp2_with fail
  with_reducible refine (RSignZ_any h2 (by omega)).mono ?_
  rintro e v2 ⟨rfl, hb1⟩
  replace x_a := x_a.keep hb1
  replace x_b := x_b.keep hb1
  replace x_r := x_r.keep hb1
  replace h := h.keep hb1
  replace h2 := h2.keep hb1
  replace hb := bthen hb hb1
  clear hb1
  replace q_a0 := x_a.c0; replace q_a1 := x_a.c1; replace f_a0 := x_a.fr 0; replace f_a1 := x_a.fr 1
  replace q_b0 := x_b.c0; replace q_b1 := x_b.c1; replace f_b0 := x_b.fr 0; replace f_b1 := x_b.fr 1
  replace q_r0 := x_r.c0; replace q_r1 := x_r.c1; replace f_r0 := x_r.fr 0; replace f_r1 := x_r.fr 1
  rw [HSG.out]
  go_wp2
  replace x_a := x_a.aside (b' := false) (A' := none) (n' := 0) (c' := 0) (g := w.heap.size + 1 + 1) (by omega)
  replace x_b := x_b.aside (b' := false) (A' := none) (n' := 0) (c' := 0) (g := w.heap.size + 1 + 1) (by omega)
  replace h := h.put (b' := false) (A' := none) (n' := 0) (c' := 0) x_r
  replace h2 := h2.put (b' := false) (A' := none) (n' := 0) (c' := 0) x_r
  replace hb := put_below (g := w.heap.size + 1 + 1) hb (by omega) (.bool false) (.slice none 0 0)
  replace x_r := x_r.put false none 0 0
  clear q_a0 q_a1 f_a0 f_a1 q_b0 q_b1 f_b0 f_b1 q_r0 q_r1 f_r0 f_r1
  generalize (v2.setCell ⟨w.heap.size + 1 + 1, 0, none⟩ (.bool false)).setCell ⟨w.heap.size + 1 + 1, 1, none⟩ (.slice none 0 0) = v3 at *
  have q_a0 := x_a.c0; have q_a1 := x_a.c1; have f_a0 := x_a.fr 0; have f_a1 := x_a.fr 1
  have q_b0 := x_b.c0; have q_b1 := x_b.c1; have f_b0 := x_b.fr 0; have f_b1 := x_b.fr 1
  have q_r0 := x_r.c0; have q_r1 := x_r.c1; have f_r0 := x_r.fr 0; have f_r1 := x_r.fr 1
  refine bodyPost_ret (v := .tuple #[.agg #[.bool false, .slice none 0 0], .bool false]) (by simp [results, Try.results44, go_sem, q_r0, q_r1]) rfl ?_
  exact ⟨rfl, hb⟩

set_option maxRecDepth 100000 in
set_option maxHeartbeats 8000000 in
theorem RRoundZ_any {b b2 : Bool} {A A2 : Option Addr} {n c n2 c2 : Nat} {X Y : Int} {j j2 : Nat} {w : World} (h : Zr w b A n c X j) (h2 : Zr w b2 A2 n2 c2 Y j2) (hY : Y ≠ 0) (k : Nat) (hk : j + 1 ≤ k) (hk2 : j2 + 1 ≤ k) (hj : k ≤ 1000) :
    Calls Try.prog 44 #[.agg #[.bool b, .slice A n c], .agg #[.bool b2, .slice A2 n2 c2]] w (RdPost w (roundI X Y) (k + 4)) := by
  rw [rd_fl hY]
  have hsg : (sgnI Y == 0) = false := by rw [beq_eq_false_iff_ne]; exact fun h => hY (sgnI_eq0.1 h)
  have hbs := sgnI_is Y
  have HY := Lib.hid hY; clear hY
  generalize hS9 : sgnI Y = S at *
  have HS := Lib.hid hS9; clear hS9
  go_enter Try.func44, Try.ntmps44
  go_wp2_with fail
  obtain ⟨hb, x_a, x_b, x_r⟩ := box3 w b A n c b2 A2 n2 c2 false none 0 0
  generalize ((w.alloc (.cells #[.bool b, .slice A n c] 24)).alloc (.cells #[.bool b2, .slice A2 n2 c2] 24)).alloc (.cells #[.bool false, .slice none 0 0] 24) = v1 at *
  replace h := h.keep hb
  replace h2 := h2.keep hb
  have q_a0 := x_a.c0; have q_a1 := x_a.c1; have f_a0 := x_a.fr 0; have f_a1 := x_a.fr 1
  have q_b0 := x_b.c0; have q_b1 := x_b.c1; have f_b0 := x_b.fr 0; have f_b1 := x_b.fr 1
  have q_r0 := x_r.c0; have q_r1 := x_r.c1; have f_r0 := x_r.fr 0; have f_r1 := x_r.fr 1
  go_wp2_with fail
  with_reducible refine (RSignZ_any h2 (by omega)).mono ?_
  rintro e v2 ⟨rfl, hb1⟩
  replace x_a := x_a.keep hb1
  replace x_b := x_b.keep hb1
  replace x_r := x_r.keep hb1
  replace h := h.keep hb1
  replace h2 := h2.keep hb1
  replace hb := bthen hb hb1
  clear hb1
  replace q_a0 := x_a.c0; replace q_a1 := x_a.c1; replace f_a0 := x_a.fr 0; replace f_a1 := x_a.fr 1
  replace q_b0 := x_b.c0; replace q_b1 := x_b.c1; replace f_b0 := x_b.fr 0; replace f_b1 := x_b.fr 1
  replace q_r0 := x_r.c0; replace q_r1 := x_r.c1; replace f_r0 := x_r.fr 0; replace f_r1 := x_r.fr 1
  rw [HS.out]
  go_wp2_with fail
  go_region_held3 (fun w' => w'.cell? ⟨w.heap.size, 0, none⟩ = some (.bool b) ∧ w'.cell? ⟨w.heap.size, 1, none⟩ = some (.slice A n c) ∧ w'.cell? ⟨w.heap.size + 1, 0, none⟩ = some (.bool b2) ∧ w'.cell? ⟨w.heap.size + 1, 1, none⟩ = some (.slice A2 n2 c2))
    (first | (with_reducible exact ⟨x_a.c0, x_a.c1, x_b.c0, x_b.c1⟩) | (with_reducible exact ⟨(x_a.aside (by omega)).c0, (x_a.aside (by omega)).c1, (x_b.aside (by omega)).c0, (x_b.aside (by omega)).c1⟩) | (with_reducible exact ⟨((x_a.aside (by omega)).aside (by omega)).c0, ((x_a.aside (by omega)).aside (by omega)).c1, ((x_b.aside (by omega)).aside (by omega)).c0, ((x_b.aside (by omega)).aside (by omega)).c1⟩) | go_keep)
    (first | (go_at_call 32; (with_reducible refine (RAddZ_any h.drw h.drw k hk hk (by omega)).mono ?_); rintro e v3 ⟨A3, n3, c3, rfl, s1, hb1⟩; replace hb1 := undrew hb1; replace x_a := x_a.keep hb1; replace x_b := x_b.keep hb1; replace x_r := x_r.keep hb1; replace h := h.keep hb1; replace h2 := h2.keep hb1; replace hb := bthen hb hb1; clear hb1; replace q_a0 := x_a.c0; replace q_a1 := x_a.c1; replace f_a0 := x_a.fr 0; replace f_a1 := x_a.fr 1; replace q_b0 := x_b.c0; replace q_b1 := x_b.c1; replace f_b0 := x_b.fr 0; replace f_b1 := x_b.fr 1; replace q_r0 := x_r.c0; replace q_r1 := x_r.c1; replace f_r0 := x_r.fr 0; replace f_r1 := x_r.fr 1) | (go_at_call 32; (with_reducible refine (RAddZ_any s1.zr h2 (k + 1) (Nat.le_refl _) (by omega) (by omega)).mono ?_); rintro e v4 ⟨A4, n4, c4, rfl, s2, hb1⟩; replace x_a := x_a.keep hb1; replace x_b := x_b.keep hb1; replace x_r := x_r.keep hb1; replace h := h.keep hb1; replace h2 := h2.keep hb1; replace s1 := s1.keep hb1; replace hb := bthen hb hb1; clear hb1; replace q_a0 := x_a.c0; replace q_a1 := x_a.c1; replace f_a0 := x_a.fr 0; replace f_a1 := x_a.fr 1; replace q_b0 := x_b.c0; replace q_b1 := x_b.c1; replace f_b0 := x_b.fr 0; replace f_b1 := x_b.fr 1; replace q_r0 := x_r.c0; replace q_r1 := x_r.c1; replace f_r0 := x_r.fr 0; replace f_r1 := x_r.fr 1) | (go_at_call 32; (with_reducible refine (RAddZ_any h2 h2 k hk2 hk2 (by omega)).mono ?_); rintro e v5 ⟨A5, n5, c5, rfl, s3, hb1⟩; replace x_a := x_a.keep hb1; replace x_b := x_b.keep hb1; replace x_r := x_r.keep hb1; replace h := h.keep hb1; replace h2 := h2.keep hb1; replace s1 := s1.keep hb1; replace s2 := s2.keep hb1; replace hb := bthen hb hb1; clear hb1; replace q_a0 := x_a.c0; replace q_a1 := x_a.c1; replace f_a0 := x_a.fr 0; replace f_a1 := x_a.fr 1; replace q_b0 := x_b.c0; replace q_b1 := x_b.c1; replace f_b0 := x_b.fr 0; replace f_b1 := x_b.fr 1; replace q_r0 := x_r.c0; replace q_r1 := x_r.c1; replace f_r0 := x_r.fr 0; replace f_r1 := x_r.fr 1) | (go_at_call 76; (with_reducible refine (Rfloor_any s2.zr s3.zr (by have := HY.out; omega) (k + 2) (Nat.le_refl _) (by omega) (by omega)).mono ?_); rintro e v6 ⟨A6, n6, c6, rfl, s4, hb1⟩; replace x_a := x_a.keep hb1; replace x_b := x_b.keep hb1; replace x_r := x_r.keep hb1; replace h := h.keep hb1; replace h2 := h2.keep hb1; replace s1 := s1.keep hb1; replace s2 := s2.keep hb1; replace s3 := s3.keep hb1; replace hb := bthen hb hb1; clear hb1; replace q_a0 := x_a.c0; replace q_a1 := x_a.c1; replace f_a0 := x_a.fr 0; replace f_a1 := x_a.fr 1; replace q_b0 := x_b.c0; replace q_b1 := x_b.c1; replace f_b0 := x_b.fr 0; replace f_b1 := x_b.fr 1; replace q_r0 := x_r.c0; replace q_r1 := x_r.c1; replace f_r0 := x_r.fr 0; replace f_r1 := x_r.fr 1))
  go_wp2
  replace x_a := x_a.aside (b' := (ngB (flI (X + X + Y) (Y + Y)))) (A' := A6) (n' := n6) (c' := c6) (g := w.heap.size + 1 + 1) (by omega)
  replace x_b := x_b.aside (b' := (ngB (flI (X + X + Y) (Y + Y)))) (A' := A6) (n' := n6) (c' := c6) (g := w.heap.size + 1 + 1) (by omega)
  replace h := h.put (b' := (ngB (flI (X + X + Y) (Y + Y)))) (A' := A6) (n' := n6) (c' := c6) x_r
  replace h2 := h2.put (b' := (ngB (flI (X + X + Y) (Y + Y)))) (A' := A6) (n' := n6) (c' := c6) x_r
  replace s1 := s1.put (b' := (ngB (flI (X + X + Y) (Y + Y)))) (A' := A6) (n' := n6) (c' := c6) x_r
  replace s2 := s2.put (b' := (ngB (flI (X + X + Y) (Y + Y)))) (A' := A6) (n' := n6) (c' := c6) x_r
  replace s3 := s3.put (b' := (ngB (flI (X + X + Y) (Y + Y)))) (A' := A6) (n' := n6) (c' := c6) x_r
  replace s4 := s4.put (b' := (ngB (flI (X + X + Y) (Y + Y)))) (A' := A6) (n' := n6) (c' := c6) x_r
  replace hb := put_below (g := w.heap.size + 1 + 1) hb (by omega) (.bool (ngB (flI (X + X + Y) (Y + Y)))) (.slice A6 n6 c6)
  replace x_r := x_r.put (ngB (flI (X + X + Y) (Y + Y))) A6 n6 c6
  clear q_a0 q_a1 f_a0 f_a1 q_b0 q_b1 f_b0 f_b1 q_r0 q_r1 f_r0 f_r1
  generalize (v6.setCell ⟨w.heap.size + 1 + 1, 0, none⟩ (.bool (ngB (flI (X + X + Y) (Y + Y))))).setCell ⟨w.heap.size + 1 + 1, 1, none⟩ (.slice A6 n6 c6) = v7 at *
  have q_a0 := x_a.c0; have q_a1 := x_a.c1; have f_a0 := x_a.fr 0; have f_a1 := x_a.fr 1
  have q_b0 := x_b.c0; have q_b1 := x_b.c1; have f_b0 := x_b.fr 0; have f_b1 := x_b.fr 1
  have q_r0 := x_r.c0; have q_r1 := x_r.c1; have f_r0 := x_r.fr 0; have f_r1 := x_r.fr 1
  refine bodyPost_ret (v := .tuple #[.agg #[.bool (ngB (flI (X + X + Y) (Y + Y))), .slice A6 n6 c6], .bool true]) (by simp [results, Try.results44, go_sem, q_r0, q_r1]) rfl ?_
  exact ⟨_, _, _, rfl, s4.wide (by omega), hb⟩

set_option maxRecDepth 100000 in
set_option maxHeartbeats 4000000 in
theorem RUpZ_zero {b b2 : Bool} {A A2 : Option Addr} {n c n2 c2 : Nat} {X Y : Int} {j j2 : Nat} {w : World} (h : Zr w b A n c X j) (h2 : Zr w b2 A2 n2 c2 Y j2) (hY : Y = 0) (hj2 : j2 ≤ 10000) :
    Calls Try.prog 46 #[.agg #[.bool b, .slice A n c], .agg #[.bool b2, .slice A2 n2 c2]] w fun e w' => e = .returned (.tuple #[.agg #[.bool false, .slice none 0 0], .bool false]) ∧ Below w.heap.size w w' := by
  have hsg : sgnI Y = 0 := sgnI_eq0.2 hY
  have HSG := Lib.hid hsg; clear hsg hY
  go_enter Try.func46, Try.ntmps46
  go_wp2_with fail
  obtain ⟨hb, x_a, x_b, x_r⟩ := box3 w b A n c b2 A2 n2 c2 false none 0 0
  generalize ((w.alloc (.cells #[.bool b, .slice A n c] 24)).alloc (.cells #[.bool b2, .slice A2 n2 c2] 24)).alloc (.cells #[.bool false, .slice none 0 0] 24) = v1 at *
  replace h := h.keep hb
  replace h2 := h2.keep hb
  have q_a0 := x_a.c0; have q_a1 := x_a.c1; have f_a0 := x_a.fr 0; have f_a1 := x_a.fr 1
  have q_b0 := x_b.c0; have q_b1 := x_b.c1; have f_b0 := x_b.fr 0; have f_b1 := x_b.fr 1
  have q_r0 := x_r.c0; have q_r1 := x_r.c1; have f_r0 := x_r.fr 0; have f_r1 := x_r.fr 1
  go_wp2_with fail
  with_reducible refine (RSignZ_any h2 (by omega)).mono ?_
  rintro e v2 ⟨rfl, hb1⟩
  replace x_a := x_a.keep hb1
  replace x_b := x_b.keep hb1
  replace x_r := x_r.keep hb1
  replace h := h.keep hb1
  replace h2 := h2.keep hb1
  replace hb := bthen hb hb1
  clear hb1
  replace q_a0 := x_a.c0; replace q_a1 := x_a.c1; replace f_a0 := x_a.fr 0; replace f_a1 := x_a.fr 1
  replace q_b0 := x_b.c0; replace q_b1 := x_b.c1; replace f_b0 := x_b.fr 0; replace f_b1 := x_b.fr 1
  replace q_r0 := x_r.c0; replace q_r1 := x_r.c1; replace f_r0 := x_r.fr 0; replace f_r1 := x_r.fr 1
  rw [HSG.out]
  go_wp2
  replace x_a := x_a.aside (b' := false) (A' := none) (n' := 0) (c' := 0) (g := w.heap.size + 1 + 1) (by omega)
  replace x_b := x_b.aside (b' := false) (A' := none) (n' := 0) (c' := 0) (g := w.heap.size + 1 + 1) (by omega)
  replace h := h.put (b' := false) (A' := none) (n' := 0) (c' := 0) x_r
  replace h2 := h2.put (b' := false) (A' := none) (n' := 0) (c' := 0) x_r
  replace hb := put_below (g := w.heap.size + 1 + 1) hb (by omega) (.bool false) (.slice none 0 0)
  replace x_r := x_r.put false none 0 0
  clear q_a0 q_a1 f_a0 f_a1 q_b0 q_b1 f_b0 f_b1 q_r0 q_r1 f_r0 f_r1
  generalize (v2.setCell ⟨w.heap.size + 1 + 1, 0, none⟩ (.bool false)).setCell ⟨w.heap.size + 1 + 1, 1, none⟩ (.slice none 0 0) = v3 at *
  have q_a0 := x_a.c0; have q_a1 := x_a.c1; have f_a0 := x_a.fr 0; have f_a1 := x_a.fr 1
  have q_b0 := x_b.c0; have q_b1 := x_b.c1; have f_b0 := x_b.fr 0; have f_b1 := x_b.fr 1
  have q_r0 := x_r.c0; have q_r1 := x_r.c1; have f_r0 := x_r.fr 0; have f_r1 := x_r.fr 1
  refine bodyPost_ret (v := .tuple #[.agg #[.bool false, .slice none 0 0], .bool false]) (by simp [results, Try.results46, go_sem, q_r0, q_r1]) rfl ?_
  exact ⟨rfl, hb⟩

set_option maxRecDepth 100000 in
set_option maxHeartbeats 8000000 in
theorem RUpZ_any {b b2 : Bool} {A A2 : Option Addr} {n c n2 c2 : Nat} {X Y : Int} {j j2 : Nat} {w : World} (h : Zr w b A n c X j) (h2 : Zr w b2 A2 n2 c2 Y j2) (hY : Y ≠ 0) (k : Nat) (hk : j + 1 ≤ k) (hk2 : j2 + 1 ≤ k) (hj : k ≤ 1000) :
    Calls Try.prog 46 #[.agg #[.bool b, .slice A n c], .agg #[.bool b2, .slice A2 n2 c2]] w (RdPost w (upI X Y) (k + 4)) := by
  rw [up_fl hY]
  have hsg : (sgnI Y == 0) = false := by rw [beq_eq_false_iff_ne]; exact fun h => hY (sgnI_eq0.1 h)
  have hbs := sgnI_is Y
  have HY := Lib.hid hY; clear hY
  generalize hS9 : sgnI Y = S at *
  have HS := Lib.hid hS9; clear hS9
  go_enter Try.func46, Try.ntmps46
  go_wp2_with fail
  obtain ⟨hb, x_a, x_b, x_r⟩ := box3 w b A n c b2 A2 n2 c2 false none 0 0
  generalize ((w.alloc (.cells #[.bool b, .slice A n c] 24)).alloc (.cells #[.bool b2, .slice A2 n2 c2] 24)).alloc (.cells #[.bool false, .slice none 0 0] 24) = v1 at *
  replace h := h.keep hb
  replace h2 := h2.keep hb
  have q_a0 := x_a.c0; have q_a1 := x_a.c1; have f_a0 := x_a.fr 0; have f_a1 := x_a.fr 1
  have q_b0 := x_b.c0; have q_b1 := x_b.c1; have f_b0 := x_b.fr 0; have f_b1 := x_b.fr 1
  have q_r0 := x_r.c0; have q_r1 := x_r.c1; have f_r0 := x_r.fr 0; have f_r1 := x_r.fr 1
  go_wp2_with fail
  with_reducible refine (RSignZ_any h2 (by omega)).mono ?_
  rintro e v2 ⟨rfl, hb1⟩
  replace x_a := x_a.keep hb1
  replace x_b := x_b.keep hb1
  replace x_r := x_r.keep hb1
  replace h := h.keep hb1
  replace h2 := h2.keep hb1
  replace hb := bthen hb hb1
  clear hb1
  replace q_a0 := x_a.c0; replace q_a1 := x_a.c1; replace f_a0 := x_a.fr 0; replace f_a1 := x_a.fr 1
  replace q_b0 := x_b.c0; replace q_b1 := x_b.c1; replace f_b0 := x_b.fr 0; replace f_b1 := x_b.fr 1
  replace q_r0 := x_r.c0; replace q_r1 := x_r.c1; replace f_r0 := x_r.fr 0; replace f_r1 := x_r.fr 1
  rw [HS.out]
  go_wp2_with fail
  go_region_held3 (fun w' => w'.cell? ⟨w.heap.size, 0, none⟩ = some (.bool b) ∧ w'.cell? ⟨w.heap.size, 1, none⟩ = some (.slice A n c) ∧ w'.cell? ⟨w.heap.size + 1, 0, none⟩ = some (.bool b2) ∧ w'.cell? ⟨w.heap.size + 1, 1, none⟩ = some (.slice A2 n2 c2))
    (first | (with_reducible exact ⟨x_a.c0, x_a.c1, x_b.c0, x_b.c1⟩) | (with_reducible exact ⟨(x_a.aside (by omega)).c0, (x_a.aside (by omega)).c1, (x_b.aside (by omega)).c0, (x_b.aside (by omega)).c1⟩) | (with_reducible exact ⟨((x_a.aside (by omega)).aside (by omega)).c0, ((x_a.aside (by omega)).aside (by omega)).c1, ((x_b.aside (by omega)).aside (by omega)).c0, ((x_b.aside (by omega)).aside (by omega)).c1⟩) | go_keep)
    (first | (go_at_call 38; (with_reducible refine (RNegZ_any h.drw j (Nat.le_refl _) (by omega)).mono ?_); rintro e v3 ⟨A3, n3, c3, rfl, s1, hb1⟩; replace hb1 := undrew hb1; replace x_a := x_a.keep hb1; replace x_b := x_b.keep hb1; replace x_r := x_r.keep hb1; replace h := h.keep hb1; replace h2 := h2.keep hb1; replace hb := bthen hb hb1; clear hb1; replace q_a0 := x_a.c0; replace q_a1 := x_a.c1; replace f_a0 := x_a.fr 0; replace f_a1 := x_a.fr 1; replace q_b0 := x_b.c0; replace q_b1 := x_b.c1; replace f_b0 := x_b.fr 0; replace f_b1 := x_b.fr 1; replace q_r0 := x_r.c0; replace q_r1 := x_r.c1; replace f_r0 := x_r.fr 0; replace f_r1 := x_r.fr 1) | (go_at_call 76; (with_reducible refine (Rfloor_any s1.zr h2 HY.out k hk hk2 (by omega)).mono ?_); rintro e v4 ⟨A4, n4, c4, rfl, s2, hb1⟩; replace x_a := x_a.keep hb1; replace x_b := x_b.keep hb1; replace x_r := x_r.keep hb1; replace h := h.keep hb1; replace h2 := h2.keep hb1; replace s1 := s1.keep hb1; replace hb := bthen hb hb1; clear hb1; replace q_a0 := x_a.c0; replace q_a1 := x_a.c1; replace f_a0 := x_a.fr 0; replace f_a1 := x_a.fr 1; replace q_b0 := x_b.c0; replace q_b1 := x_b.c1; replace f_b0 := x_b.fr 0; replace f_b1 := x_b.fr 1; replace q_r0 := x_r.c0; replace q_r1 := x_r.c1; replace f_r0 := x_r.fr 0; replace f_r1 := x_r.fr 1) | (go_at_call 38; (with_reducible refine (RNegZ_any s2.zr (k + 1) (Nat.le_refl _) (by omega)).mono ?_); rintro e v5 ⟨A5, n5, c5, rfl, s3, hb1⟩; replace x_a := x_a.keep hb1; replace x_b := x_b.keep hb1; replace x_r := x_r.keep hb1; replace h := h.keep hb1; replace h2 := h2.keep hb1; replace s1 := s1.keep hb1; replace s2 := s2.keep hb1; replace hb := bthen hb hb1; clear hb1; replace q_a0 := x_a.c0; replace q_a1 := x_a.c1; replace f_a0 := x_a.fr 0; replace f_a1 := x_a.fr 1; replace q_b0 := x_b.c0; replace q_b1 := x_b.c1; replace f_b0 := x_b.fr 0; replace f_b1 := x_b.fr 1; replace q_r0 := x_r.c0; replace q_r1 := x_r.c1; replace f_r0 := x_r.fr 0; replace f_r1 := x_r.fr 1))
  go_wp2
  replace x_a := x_a.aside (b' := (ngB (-flI (-X) Y))) (A' := A5) (n' := n5) (c' := c5) (g := w.heap.size + 1 + 1) (by omega)
  replace x_b := x_b.aside (b' := (ngB (-flI (-X) Y))) (A' := A5) (n' := n5) (c' := c5) (g := w.heap.size + 1 + 1) (by omega)
  replace h := h.put (b' := (ngB (-flI (-X) Y))) (A' := A5) (n' := n5) (c' := c5) x_r
  replace h2 := h2.put (b' := (ngB (-flI (-X) Y))) (A' := A5) (n' := n5) (c' := c5) x_r
  replace s1 := s1.put (b' := (ngB (-flI (-X) Y))) (A' := A5) (n' := n5) (c' := c5) x_r
  replace s2 := s2.put (b' := (ngB (-flI (-X) Y))) (A' := A5) (n' := n5) (c' := c5) x_r
  replace s3 := s3.put (b' := (ngB (-flI (-X) Y))) (A' := A5) (n' := n5) (c' := c5) x_r
  replace hb := put_below (g := w.heap.size + 1 + 1) hb (by omega) (.bool (ngB (-flI (-X) Y))) (.slice A5 n5 c5)
  replace x_r := x_r.put (ngB (-flI (-X) Y)) A5 n5 c5
  clear q_a0 q_a1 f_a0 f_a1 q_b0 q_b1 f_b0 f_b1 q_r0 q_r1 f_r0 f_r1
  generalize (v5.setCell ⟨w.heap.size + 1 + 1, 0, none⟩ (.bool (ngB (-flI (-X) Y)))).setCell ⟨w.heap.size + 1 + 1, 1, none⟩ (.slice A5 n5 c5) = v6 at *
  have q_a0 := x_a.c0; have q_a1 := x_a.c1; have f_a0 := x_a.fr 0; have f_a1 := x_a.fr 1
  have q_b0 := x_b.c0; have q_b1 := x_b.c1; have f_b0 := x_b.fr 0; have f_b1 := x_b.fr 1
  have q_r0 := x_r.c0; have q_r1 := x_r.c1; have f_r0 := x_r.fr 0; have f_r1 := x_r.fr 1
  refine bodyPost_ret (v := .tuple #[.agg #[.bool (ngB (-flI (-X) Y)), .slice A5 n5 c5], .bool true]) (by simp [results, Try.results46, go_sem, q_r0, q_r1]) rfl ?_
  exact ⟨_, _, _, rfl, s3.wide (by omega), hb⟩

set_option maxRecDepth 100000 in
set_option maxHeartbeats 2000000 in
theorem RGcdZ_any {b b2 : Bool} {A A2 : Option Addr} {n c n2 c2 : Nat} {X Y : Int} {j j2 : Nat} {w : World} (h : Zr w b A n c X j) (h2 : Zr w b2 A2 n2 c2 Y j2) (k : Nat) (hk : j ≤ k) (hk2 : j2 ≤ k) (hj : k ≤ 10000) :
    Calls Try.prog 48 #[.agg #[.bool b, .slice A n c], .agg #[.bool b2, .slice A2 n2 c2]] w (OutZ w (Nat.gcd X.natAbs Y.natAbs : Int) k) := by
  obtain ⟨l, h, rfl, hn⟩ := h
  obtain ⟨m, h2, rfl, hn2⟩ := h2
  have hs := Sm.of h hn
  have hs2 := Sm.of h2 hn2
  generalize hN : vl Wd l = N at *
  have HN := Lib.hid hN; clear hN
  generalize hM : vl Wd m = M at *
  have HM := Lib.hid hM; clear hM
  rw [zi_abs, zi_abs, ← zi_false]
  have hs3 := (hs.mono hk).gcd (hs2.mono hk2)
  clear hs hs2
  go_enter Try.func48, Try.ntmps48
  go_wp2_with fail
  obtain ⟨hb, x_a, x_b, x_r⟩ := box3 w b A n c b2 A2 n2 c2 false none 0 0
  generalize ((w.alloc (.cells #[.bool b, .slice A n c] 24)).alloc (.cells #[.bool b2, .slice A2 n2 c2] 24)).alloc (.cells #[.bool false, .slice none 0 0] 24) = v1 at *
  replace h := h.go hb
  replace h2 := h2.go hb
  have q_a0 := x_a.c0; have q_a1 := x_a.c1; have f_a0 := x_a.fr 0; have f_a1 := x_a.fr 1
  have q_b0 := x_b.c0; have q_b1 := x_b.c1; have f_b0 := x_b.fr 0; have f_b1 := x_b.fr 1
  have q_r0 := x_r.c0; have q_r1 := x_r.c1; have f_r0 := x_r.fr 0; have f_r1 := x_r.fr 1
  go_wp2_with fail
  with_reducible refine (RGcd_any _ _ _ _ _ _ _ _ _ h h2 (by omega) (by omega)).mono ?_
  rintro e v2 ⟨A1, n1, c1, rfl, g1, hb1⟩
  replace x_a := x_a.keep hb1
  replace x_b := x_b.keep hb1
  replace x_r := x_r.keep hb1
  replace h := h.go hb1
  replace h2 := h2.go hb1
  replace hb := bthen hb hb1
  clear hb1
  replace q_a0 := x_a.c0; replace q_a1 := x_a.c1; replace f_a0 := x_a.fr 0; replace f_a1 := x_a.fr 1
  replace q_b0 := x_b.c0; replace q_b1 := x_b.c1; replace f_b0 := x_b.fr 0; replace f_b1 := x_b.fr 1
  replace q_r0 := x_r.c0; replace q_r1 := x_r.c1; replace f_r0 := x_r.fr 0; replace f_r1 := x_r.fr 1
  rw [HN.out, HM.out] at g1
  have zn1 := g1.small hs3
  go_wp2_with fail
  with_reducible refine (RMake_any (b := false) g1 (Nat.gcd N M) k (vl_dg Wd2 _) hs3 (by omega)).mono ?_
  rintro e v3 ⟨A3, n3, c3, rfl, z1, hb1⟩
  replace x_a := x_a.keep hb1
  replace x_b := x_b.keep hb1
  replace x_r := x_r.keep hb1
  replace h := h.go hb1
  replace h2 := h2.go hb1
  replace g1 := g1.go hb1
  replace hb := bthen hb hb1
  clear hb1
  replace q_a0 := x_a.c0; replace q_a1 := x_a.c1; replace f_a0 := x_a.fr 0; replace f_a1 := x_a.fr 1
  replace q_b0 := x_b.c0; replace q_b1 := x_b.c1; replace f_b0 := x_b.fr 0; replace f_b1 := x_b.fr 1
  replace q_r0 := x_r.c0; replace q_r1 := x_r.c1; replace f_r0 := x_r.fr 0; replace f_r1 := x_r.fr 1
  go_wp2
  replace x_a := x_a.aside (b' := (ngB (zi false (Nat.gcd N M)))) (A' := A3) (n' := n3) (c' := c3) (g := w.heap.size + 1 + 1) (by omega)
  replace x_b := x_b.aside (b' := (ngB (zi false (Nat.gcd N M)))) (A' := A3) (n' := n3) (c' := c3) (g := w.heap.size + 1 + 1) (by omega)
  replace h := h.sput (b' := (ngB (zi false (Nat.gcd N M)))) (A' := A3) (n' := n3) (c' := c3) x_r
  replace h2 := h2.sput (b' := (ngB (zi false (Nat.gcd N M)))) (A' := A3) (n' := n3) (c' := c3) x_r
  replace g1 := g1.sput (b' := (ngB (zi false (Nat.gcd N M)))) (A' := A3) (n' := n3) (c' := c3) x_r
  replace z1 := z1.put (b' := (ngB (zi false (Nat.gcd N M)))) (A' := A3) (n' := n3) (c' := c3) x_r
  replace hb := put_below (g := w.heap.size + 1 + 1) hb (by omega) (.bool (ngB (zi false (Nat.gcd N M)))) (.slice A3 n3 c3)
  replace x_r := x_r.put (ngB (zi false (Nat.gcd N M))) A3 n3 c3
  clear q_a0 q_a1 f_a0 f_a1 q_b0 q_b1 f_b0 f_b1 q_r0 q_r1 f_r0 f_r1
  generalize (v3.setCell ⟨w.heap.size + 1 + 1, 0, none⟩ (.bool (ngB (zi false (Nat.gcd N M))))).setCell ⟨w.heap.size + 1 + 1, 1, none⟩ (.slice A3 n3 c3) = v4 at *
  have q_a0 := x_a.c0; have q_a1 := x_a.c1; have f_a0 := x_a.fr 0; have f_a1 := x_a.fr 1
  have q_b0 := x_b.c0; have q_b1 := x_b.c1; have f_b0 := x_b.fr 0; have f_b1 := x_b.fr 1
  have q_r0 := x_r.c0; have q_r1 := x_r.c1; have f_r0 := x_r.fr 0; have f_r1 := x_r.fr 1
  refine bodyPost_ret (v := .agg #[.bool (ngB (zi false (Nat.gcd N M))), .slice A3 n3 c3]) (by simp [results, Try.results48, go_sem, q_r0, q_r1]) rfl ?_
  exact ⟨_, _, _, rfl, z1, hb⟩
end
end Go.Proofs.Ythnffjgbglncbaa
namespace Go.Proofs.Ythnffjgbglncbaa
section
open Go.RowKit
set_option linter.unusedVariables false

theorem Zr.of {w : World} {b : Bool} {A : Option Addr} {n c k : Nat} {l : List Int} (h : Rd w w.heap.size A n c l) (hk : n ≤ k) : Zr w b A n c (zi b (vl Wd l)) k := ⟨l, h, rfl, hk⟩
theorem Zn.nil (w : World) : Zn w none 0 0 0 0 := ⟨by show Rd _ _ _ _ _ (dg Wd 0); rw [dg_zero]; exact Rd.nil, Nat.le_refl _⟩
theorem Zequal_nil (w : World) : Calls Try.prog 16 #[.agg #[.bool false, .slice none 0 0], .agg #[.bool false, .slice none 0 0]] w fun e w' => e = .returned (.bool true) ∧ Below w.heap.size w w' := by
  have h := Zequal_any (Zn.nil w) (Zn.nil w) rfl
  rw [show ngB 0 = false from rfl] at h
  exact h

set_option maxRecDepth 100000 in
set_option maxHeartbeats 32000000 in
theorem ZedDivides_any {b b2 : Bool} {A A2 : Option Addr} {n c n2 c2 : Nat} {l l2 : List Int} {w : World} (h : Rd w w.heap.size A n c l) (h2 : Rd w w.heap.size A2 n2 c2 l2) :
    Calls Try.prog 6 #[.agg #[.bool b, .slice A n c], .agg #[.bool b2, .slice A2 n2 c2]] w fun e w' => e = .returned (.bool true) ∧ Below w.heap.size w w' := by
  go_enter Try.func6, Try.ntmps6
  go_wp2_with fail
  obtain ⟨hb, x_a, x_b⟩ := box2 w b A n c b2 A2 n2 c2
  generalize (w.alloc (.cells #[.bool b, .slice A n c] 24)).alloc (.cells #[.bool b2, .slice A2 n2 c2] 24) = v1 at *
  replace h := h.go hb
  replace h2 := h2.go hb
  have q_a0 := x_a.c0; have q_a1 := x_a.c1; have f_a0 := x_a.fr 0; have f_a1 := x_a.fr 1
  have q_b0 := x_b.c0; have q_b1 := x_b.c1; have f_b0 := x_b.fr 0; have f_b1 := x_b.fr 1
  go_wp2_with fail
  with_reducible refine (Zshown_any _).mono ?_
  rintro e v2 ⟨rfl, hb1⟩
  replace x_a := x_a.keep hb1
  replace x_b := x_b.keep hb1
  replace h := h.go hb1
  replace h2 := h2.go hb1
  replace hb := bthen hb hb1
  clear hb1
  replace q_a0 := x_a.c0; replace q_a1 := x_a.c1; replace f_a0 := x_a.fr 0; replace f_a1 := x_a.fr 1
  replace q_b0 := x_b.c0; replace q_b1 := x_b.c1; replace f_b0 := x_b.fr 0; replace f_b1 := x_b.fr 1
  go_wp2_with fail
  with_reducible refine (Zcut_at h 16 16 rfl (by omega)).mono ?_
  rintro e v3 ⟨Aa_, na_, ca_, rfl, pa, ka, hb1⟩
  replace x_a := x_a.keep hb1
  replace x_b := x_b.keep hb1
  replace h := h.go hb1
  replace h2 := h2.go hb1
  replace hb := bthen hb hb1
  clear hb1
  replace q_a0 := x_a.c0; replace q_a1 := x_a.c1; replace f_a0 := x_a.fr 0; replace f_a1 := x_a.fr 1
  replace q_b0 := x_b.c0; replace q_b1 := x_b.c1; replace f_b0 := x_b.fr 0; replace f_b1 := x_b.fr 1
  obtain ⟨A, za⟩ : ∃ X, Zr _ b Aa_ na_ ca_ X 16 := ⟨_, _, pa, rfl, ka⟩
  clear ka
  clear h
  go_wp2_with fail
  replace x_b := x_b.aside (b' := b) (A' := Aa_) (n' := na_) (c' := ca_) (g := w.heap.size) (by omega)
  replace h2 := h2.sput (b' := b) (A' := Aa_) (n' := na_) (c' := ca_) x_a
  replace pa := pa.sput (b' := b) (A' := Aa_) (n' := na_) (c' := ca_) x_a
  replace za := za.put (b' := b) (A' := Aa_) (n' := na_) (c' := ca_) x_a
  replace hb := put_below (g := w.heap.size) hb (by omega) (.bool b) (.slice Aa_ na_ ca_)
  replace x_a := x_a.put b Aa_ na_ ca_
  clear q_a0 q_a1 f_a0 f_a1 q_b0 q_b1 f_b0 f_b1
  generalize (v3.setCell ⟨w.heap.size, 0, none⟩ (.bool b)).setCell ⟨w.heap.size, 1, none⟩ (.slice Aa_ na_ ca_) = v4 at *
  have q_a0 := x_a.c0; have q_a1 := x_a.c1; have f_a0 := x_a.fr 0; have f_a1 := x_a.fr 1
  have q_b0 := x_b.c0; have q_b1 := x_b.c1; have f_b0 := x_b.fr 0; have f_b1 := x_b.fr 1
  with_reducible refine (Zcut_at h2 8 8 rfl (by omega)).mono ?_
  rintro e v5 ⟨Ab_, nb_, cb_, rfl, pb, kb, hb1⟩
  replace x_a := x_a.keep hb1
  replace x_b := x_b.keep hb1
  replace h2 := h2.go hb1
  replace pa := pa.go hb1
  replace za := za.keep hb1
  replace hb := bthen hb hb1
  clear hb1
  replace q_a0 := x_a.c0; replace q_a1 := x_a.c1; replace f_a0 := x_a.fr 0; replace f_a1 := x_a.fr 1
  replace q_b0 := x_b.c0; replace q_b1 := x_b.c1; replace f_b0 := x_b.fr 0; replace f_b1 := x_b.fr 1
  obtain ⟨B, zb⟩ : ∃ X, Zr _ b2 Ab_ nb_ cb_ X 8 := ⟨_, _, pb, rfl, kb⟩
  clear kb
  clear h2
  go_wp2_with fail
  replace x_a := x_a.aside (b' := b2) (A' := Ab_) (n' := nb_) (c' := cb_) (g := w.heap.size + 1) (by omega)
  replace pa := pa.sput (b' := b2) (A' := Ab_) (n' := nb_) (c' := cb_) x_b
  replace za := za.put (b' := b2) (A' := Ab_) (n' := nb_) (c' := cb_) x_b
  replace pb := pb.sput (b' := b2) (A' := Ab_) (n' := nb_) (c' := cb_) x_b
  replace zb := zb.put (b' := b2) (A' := Ab_) (n' := nb_) (c' := cb_) x_b
  replace hb := put_below (g := w.heap.size + 1) hb (by omega) (.bool b2) (.slice Ab_ nb_ cb_)
  replace x_b := x_b.put b2 Ab_ nb_ cb_
  clear q_a0 q_a1 f_a0 f_a1 q_b0 q_b1 f_b0 f_b1
  generalize (v5.setCell ⟨w.heap.size + 1, 0, none⟩ (.bool b2)).setCell ⟨w.heap.size + 1, 1, none⟩ (.slice Ab_ nb_ cb_) = v6 at *
  have q_a0 := x_a.c0; have q_a1 := x_a.c1; have f_a0 := x_a.fr 0; have f_a1 := x_a.fr 1
  have q_b0 := x_b.c0; have q_b1 := x_b.c1; have f_b0 := x_b.fr 0; have f_b1 := x_b.fr 1
  by_cases hB0 : B = 0
  · have HB0 := Lib.hid hB0; clear hB0
    skip
    with_reducible refine (ZDivMod_zero za zb HB0.out).mono ?_
    rintro e v7 ⟨rfl, hb1⟩
    replace x_a := x_a.keep hb1
    replace x_b := x_b.keep hb1
    replace pa := pa.go hb1
    replace za := za.keep hb1
    replace pb := pb.go hb1
    replace zb := zb.keep hb1
    replace hb := bthen hb hb1
    clear hb1
    replace q_a0 := x_a.c0; replace q_a1 := x_a.c1; replace f_a0 := x_a.fr 0; replace f_a1 := x_a.fr 1
    replace q_b0 := x_b.c0; replace q_b1 := x_b.c1; replace f_b0 := x_b.fr 0; replace f_b1 := x_b.fr 1
    have y_a := ((x_a.alloc (.cells #[.bool false, .slice none 0 0] 24)).alloc (.cells #[.bool false, .slice none 0 0] 24)); have yq_a0 := y_a.c0; have yq_a1 := y_a.c1
    have y_b := ((x_b.alloc (.cells #[.bool false, .slice none 0 0] 24)).alloc (.cells #[.bool false, .slice none 0 0] 24)); have yq_b0 := y_b.c0; have yq_b1 := y_b.c1
    go_wp2_with fail
    clear y_a yq_a0 yq_a1 y_b yq_b0 yq_b1
    have l_a_q := x_a.lt
    have l_b_q := x_b.lt
    have e_q : w.heap.size ≤ v7.heap.size := hb.size
    obtain ⟨hb1, x_q, x_r⟩ := box2 v7 false none 0 0 false none 0 0
    replace x_a := x_a.keep hb1
    replace x_b := x_b.keep hb1
    replace pa := pa.go hb1
    replace za := za.keep hb1
    replace pb := pb.go hb1
    replace zb := zb.keep hb1
    replace hb := bthen hb hb1
    clear hb1
    replace q_a0 := x_a.c0; replace q_a1 := x_a.c1; replace f_a0 := x_a.fr 0; replace f_a1 := x_a.fr 1
    replace q_b0 := x_b.c0; replace q_b1 := x_b.c1; replace f_b0 := x_b.fr 0; replace f_b1 := x_b.fr 1
    clear q_a0 q_a1 f_a0 f_a1 q_b0 q_b1 f_b0 f_b1
    generalize (v7.alloc (.cells #[.bool false, .slice none 0 0] 24)).alloc (.cells #[.bool false, .slice none 0 0] 24) = v8 at *
    have q_a0 := x_a.c0; have q_a1 := x_a.c1; have f_a0 := x_a.fr 0; have f_a1 := x_a.fr 1
    have q_b0 := x_b.c0; have q_b1 := x_b.c1; have f_b0 := x_b.fr 0; have f_b1 := x_b.fr 1
    have q_q0 := x_q.c0; have q_q1 := x_q.c1; have f_q0 := x_q.fr 0; have f_q1 := x_q.fr 1
    have q_r0 := x_r.c0; have q_r1 := x_r.c1; have f_r0 := x_r.fr 0; have f_r1 := x_r.fr 1
    skip
    with_reducible refine (RDivModZ_zero za zb HB0.out (by omega) (by omega)).mono ?_
    rintro e v9 ⟨rfl, hb1⟩
    replace x_a := x_a.keep hb1
    replace x_b := x_b.keep hb1
    replace x_q := x_q.keep hb1
    replace x_r := x_r.keep hb1
    replace pa := pa.go hb1
    replace za := za.keep hb1
    replace pb := pb.go hb1
    replace zb := zb.keep hb1
    replace hb := bthen hb hb1
    clear hb1
    replace q_a0 := x_a.c0; replace q_a1 := x_a.c1; replace f_a0 := x_a.fr 0; replace f_a1 := x_a.fr 1
    replace q_b0 := x_b.c0; replace q_b1 := x_b.c1; replace f_b0 := x_b.fr 0; replace f_b1 := x_b.fr 1
    replace q_q0 := x_q.c0; replace q_q1 := x_q.c1; replace f_q0 := x_q.fr 0; replace f_q1 := x_q.fr 1
    replace q_r0 := x_r.c0; replace q_r1 := x_r.c1; replace f_r0 := x_r.fr 0; replace f_r1 := x_r.fr 1
    have y_a := ((x_a.alloc (.cells #[.bool false, .slice none 0 0] 24)).alloc (.cells #[.bool false, .slice none 0 0] 24)); have yq_a0 := y_a.c0; have yq_a1 := y_a.c1
    have y_b := ((x_b.alloc (.cells #[.bool false, .slice none 0 0] 24)).alloc (.cells #[.bool false, .slice none 0 0] 24)); have yq_b0 := y_b.c0; have yq_b1 := y_b.c1
    have y_q := ((x_q.alloc (.cells #[.bool false, .slice none 0 0] 24)).alloc (.cells #[.bool false, .slice none 0 0] 24)); have yq_q0 := y_q.c0; have yq_q1 := y_q.c1
    have y_r := ((x_r.alloc (.cells #[.bool false, .slice none 0 0] 24)).alloc (.cells #[.bool false, .slice none 0 0] 24)); have yq_r0 := y_r.c0; have yq_r1 := y_r.c1
    go_wp2_with fail
    clear y_a yq_a0 yq_a1 y_b yq_b0 yq_b1 y_q yq_q0 yq_q1 y_r yq_r0 yq_r1
    have l_a_s := x_a.lt
    have l_b_s := x_b.lt
    have l_q_s := x_q.lt
    have l_r_s := x_r.lt
    have e_s : w.heap.size ≤ v9.heap.size := hb.size
    obtain ⟨hb1, x_s, x_t⟩ := box2 v9 false none 0 0 false none 0 0
    replace x_a := x_a.keep hb1
    replace x_b := x_b.keep hb1
    replace x_q := x_q.keep hb1
    replace x_r := x_r.keep hb1
    replace pa := pa.go hb1
    replace za := za.keep hb1
    replace pb := pb.go hb1
    replace zb := zb.keep hb1
    replace hb := bthen hb hb1
    clear hb1
    replace q_a0 := x_a.c0; replace q_a1 := x_a.c1; replace f_a0 := x_a.fr 0; replace f_a1 := x_a.fr 1
    replace q_b0 := x_b.c0; replace q_b1 := x_b.c1; replace f_b0 := x_b.fr 0; replace f_b1 := x_b.fr 1
    replace q_q0 := x_q.c0; replace q_q1 := x_q.c1; replace f_q0 := x_q.fr 0; replace f_q1 := x_q.fr 1
    replace q_r0 := x_r.c0; replace q_r1 := x_r.c1; replace f_r0 := x_r.fr 0; replace f_r1 := x_r.fr 1
    clear q_a0 q_a1 f_a0 f_a1 q_b0 q_b1 f_b0 f_b1 q_q0 q_q1 f_q0 f_q1 q_r0 q_r1 f_r0 f_r1
    generalize (v9.alloc (.cells #[.bool false, .slice none 0 0] 24)).alloc (.cells #[.bool false, .slice none 0 0] 24) = v10 at *
    have q_a0 := x_a.c0; have q_a1 := x_a.c1; have f_a0 := x_a.fr 0; have f_a1 := x_a.fr 1
    have q_b0 := x_b.c0; have q_b1 := x_b.c1; have f_b0 := x_b.fr 0; have f_b1 := x_b.fr 1
    have q_q0 := x_q.c0; have q_q1 := x_q.c1; have f_q0 := x_q.fr 0; have f_q1 := x_q.fr 1
    have q_r0 := x_r.c0; have q_r1 := x_r.c1; have f_r0 := x_r.fr 0; have f_r1 := x_r.fr 1
    have q_s0 := x_s.c0; have q_s1 := x_s.c1; have f_s0 := x_s.fr 0; have f_s1 := x_s.fr 1
    have q_t0 := x_t.c0; have q_t1 := x_t.c1; have f_t0 := x_t.fr 0; have f_t1 := x_t.fr 1
    skip
    with_reducible refine (ZRound_zero za zb HB0.out).mono ?_
    rintro e v11 ⟨rfl, hb1⟩
    replace x_a := x_a.keep hb1
    replace x_b := x_b.keep hb1
    replace x_q := x_q.keep hb1
    replace x_r := x_r.keep hb1
    replace x_s := x_s.keep hb1
    replace x_t := x_t.keep hb1
    replace pa := pa.go hb1
    replace za := za.keep hb1
    replace pb := pb.go hb1
    replace zb := zb.keep hb1
    replace hb := bthen hb hb1
    clear hb1
    replace q_a0 := x_a.c0; replace q_a1 := x_a.c1; replace f_a0 := x_a.fr 0; replace f_a1 := x_a.fr 1
    replace q_b0 := x_b.c0; replace q_b1 := x_b.c1; replace f_b0 := x_b.fr 0; replace f_b1 := x_b.fr 1
    replace q_q0 := x_q.c0; replace q_q1 := x_q.c1; replace f_q0 := x_q.fr 0; replace f_q1 := x_q.fr 1
    replace q_r0 := x_r.c0; replace q_r1 := x_r.c1; replace f_r0 := x_r.fr 0; replace f_r1 := x_r.fr 1
    replace q_s0 := x_s.c0; replace q_s1 := x_s.c1; replace f_s0 := x_s.fr 0; replace f_s1 := x_s.fr 1
    replace q_t0 := x_t.c0; replace q_t1 := x_t.c1; replace f_t0 := x_t.fr 0; replace f_t1 := x_t.fr 1
    have y_a := (x_a.alloc (.cells #[.bool false, .slice none 0 0] 24)); have yq_a0 := y_a.c0; have yq_a1 := y_a.c1
    have y_b := (x_b.alloc (.cells #[.bool false, .slice none 0 0] 24)); have yq_b0 := y_b.c0; have yq_b1 := y_b.c1
    have y_q := (x_q.alloc (.cells #[.bool false, .slice none 0 0] 24)); have yq_q0 := y_q.c0; have yq_q1 := y_q.c1
    have y_r := (x_r.alloc (.cells #[.bool false, .slice none 0 0] 24)); have yq_r0 := y_r.c0; have yq_r1 := y_r.c1
    have y_s := (x_s.alloc (.cells #[.bool false, .slice none 0 0] 24)); have yq_s0 := y_s.c0; have yq_s1 := y_s.c1
    have y_t := (x_t.alloc (.cells #[.bool false, .slice none 0 0] 24)); have yq_t0 := y_t.c0; have yq_t1 := y_t.c1
    go_wp2_with fail
    clear y_a yq_a0 yq_a1 y_b yq_b0 yq_b1 y_q yq_q0 yq_q1 y_r yq_r0 yq_r1 y_s yq_s0 yq_s1 y_t yq_t0 yq_t1
    have hb1 := below_alloc v11 (.cells #[.bool false, .slice none 0 0] 24)
    have l_a_u := x_a.lt
    have l_b_u := x_b.lt
    have l_q_u := x_q.lt
    have l_r_u := x_r.lt
    have l_s_u := x_s.lt
    have l_t_u := x_t.lt
    have x_u := Bx.new v11 false none 0 0
    have e_u : w.heap.size ≤ v11.heap.size := hb.size
    replace x_a := x_a.keep hb1
    replace x_b := x_b.keep hb1
    replace x_q := x_q.keep hb1
    replace x_r := x_r.keep hb1
    replace x_s := x_s.keep hb1
    replace x_t := x_t.keep hb1
    replace pa := pa.go hb1
    replace za := za.keep hb1
    replace pb := pb.go hb1
    replace zb := zb.keep hb1
    replace hb := bthen hb hb1
    clear hb1
    replace q_a0 := x_a.c0; replace q_a1 := x_a.c1; replace f_a0 := x_a.fr 0; replace f_a1 := x_a.fr 1
    replace q_b0 := x_b.c0; replace q_b1 := x_b.c1; replace f_b0 := x_b.fr 0; replace f_b1 := x_b.fr 1
    replace q_q0 := x_q.c0; replace q_q1 := x_q.c1; replace f_q0 := x_q.fr 0; replace f_q1 := x_q.fr 1
    replace q_r0 := x_r.c0; replace q_r1 := x_r.c1; replace f_r0 := x_r.fr 0; replace f_r1 := x_r.fr 1
    replace q_s0 := x_s.c0; replace q_s1 := x_s.c1; replace f_s0 := x_s.fr 0; replace f_s1 := x_s.fr 1
    replace q_t0 := x_t.c0; replace q_t1 := x_t.c1; replace f_t0 := x_t.fr 0; replace f_t1 := x_t.fr 1
    clear q_a0 q_a1 f_a0 f_a1 q_b0 q_b1 f_b0 f_b1 q_q0 q_q1 f_q0 f_q1 q_r0 q_r1 f_r0 f_r1 q_s0 q_s1 f_s0 f_s1 q_t0 q_t1 f_t0 f_t1
    generalize v11.alloc (.cells #[.bool false, .slice none 0 0] 24) = v12 at *
    have q_a0 := x_a.c0; have q_a1 := x_a.c1; have f_a0 := x_a.fr 0; have f_a1 := x_a.fr 1
    have q_b0 := x_b.c0; have q_b1 := x_b.c1; have f_b0 := x_b.fr 0; have f_b1 := x_b.fr 1
    have q_q0 := x_q.c0; have q_q1 := x_q.c1; have f_q0 := x_q.fr 0; have f_q1 := x_q.fr 1
    have q_r0 := x_r.c0; have q_r1 := x_r.c1; have f_r0 := x_r.fr 0; have f_r1 := x_r.fr 1
    have q_s0 := x_s.c0; have q_s1 := x_s.c1; have f_s0 := x_s.fr 0; have f_s1 := x_s.fr 1
    have q_t0 := x_t.c0; have q_t1 := x_t.c1; have f_t0 := x_t.fr 0; have f_t1 := x_t.fr 1
    have q_u0 := x_u.c0; have q_u1 := x_u.c1; have f_u0 := x_u.fr 0; have f_u1 := x_u.fr 1
    skip
    with_reducible refine (RRoundZ_zero za zb HB0.out (by omega)).mono ?_
    rintro e v13 ⟨rfl, hb1⟩
    replace x_a := x_a.keep hb1
    replace x_b := x_b.keep hb1
    replace x_q := x_q.keep hb1
    replace x_r := x_r.keep hb1
    replace x_s := x_s.keep hb1
    replace x_t := x_t.keep hb1
    replace x_u := x_u.keep hb1
    replace pa := pa.go hb1
    replace za := za.keep hb1
    replace pb := pb.go hb1
    replace zb := zb.keep hb1
    replace hb := bthen hb hb1
    clear hb1
    replace q_a0 := x_a.c0; replace q_a1 := x_a.c1; replace f_a0 := x_a.fr 0; replace f_a1 := x_a.fr 1
    replace q_b0 := x_b.c0; replace q_b1 := x_b.c1; replace f_b0 := x_b.fr 0; replace f_b1 := x_b.fr 1
    replace q_q0 := x_q.c0; replace q_q1 := x_q.c1; replace f_q0 := x_q.fr 0; replace f_q1 := x_q.fr 1
    replace q_r0 := x_r.c0; replace q_r1 := x_r.c1; replace f_r0 := x_r.fr 0; replace f_r1 := x_r.fr 1
    replace q_s0 := x_s.c0; replace q_s1 := x_s.c1; replace f_s0 := x_s.fr 0; replace f_s1 := x_s.fr 1
    replace q_t0 := x_t.c0; replace q_t1 := x_t.c1; replace f_t0 := x_t.fr 0; replace f_t1 := x_t.fr 1
    replace q_u0 := x_u.c0; replace q_u1 := x_u.c1; replace f_u0 := x_u.fr 0; replace f_u1 := x_u.fr 1
    have y_a := (x_a.alloc (.cells #[.bool false, .slice none 0 0] 24)); have yq_a0 := y_a.c0; have yq_a1 := y_a.c1
    have y_b := (x_b.alloc (.cells #[.bool false, .slice none 0 0] 24)); have yq_b0 := y_b.c0; have yq_b1 := y_b.c1
    have y_q := (x_q.alloc (.cells #[.bool false, .slice none 0 0] 24)); have yq_q0 := y_q.c0; have yq_q1 := y_q.c1
    have y_r := (x_r.alloc (.cells #[.bool false, .slice none 0 0] 24)); have yq_r0 := y_r.c0; have yq_r1 := y_r.c1
    have y_s := (x_s.alloc (.cells #[.bool false, .slice none 0 0] 24)); have yq_s0 := y_s.c0; have yq_s1 := y_s.c1
    have y_t := (x_t.alloc (.cells #[.bool false, .slice none 0 0] 24)); have yq_t0 := y_t.c0; have yq_t1 := y_t.c1
    have y_u := (x_u.alloc (.cells #[.bool false, .slice none 0 0] 24)); have yq_u0 := y_u.c0; have yq_u1 := y_u.c1
    go_wp2_with fail
    clear y_a yq_a0 yq_a1 y_b yq_b0 yq_b1 y_q yq_q0 yq_q1 y_r yq_r0 yq_r1 y_s yq_s0 yq_s1 y_t yq_t0 yq_t1 y_u yq_u0 yq_u1
    have hb1 := below_alloc v13 (.cells #[.bool false, .slice none 0 0] 24)
    have l_a_v := x_a.lt
    have l_b_v := x_b.lt
    have l_q_v := x_q.lt
    have l_r_v := x_r.lt
    have l_s_v := x_s.lt
    have l_t_v := x_t.lt
    have l_u_v := x_u.lt
    have x_v := Bx.new v13 false none 0 0
    have e_v : w.heap.size ≤ v13.heap.size := hb.size
    replace x_a := x_a.keep hb1
    replace x_b := x_b.keep hb1
    replace x_q := x_q.keep hb1
    replace x_r := x_r.keep hb1
    replace x_s := x_s.keep hb1
    replace x_t := x_t.keep hb1
    replace x_u := x_u.keep hb1
    replace pa := pa.go hb1
    replace za := za.keep hb1
    replace pb := pb.go hb1
    replace zb := zb.keep hb1
    replace hb := bthen hb hb1
    clear hb1
    replace q_a0 := x_a.c0; replace q_a1 := x_a.c1; replace f_a0 := x_a.fr 0; replace f_a1 := x_a.fr 1
    replace q_b0 := x_b.c0; replace q_b1 := x_b.c1; replace f_b0 := x_b.fr 0; replace f_b1 := x_b.fr 1
    replace q_q0 := x_q.c0; replace q_q1 := x_q.c1; replace f_q0 := x_q.fr 0; replace f_q1 := x_q.fr 1
    replace q_r0 := x_r.c0; replace q_r1 := x_r.c1; replace f_r0 := x_r.fr 0; replace f_r1 := x_r.fr 1
    replace q_s0 := x_s.c0; replace q_s1 := x_s.c1; replace f_s0 := x_s.fr 0; replace f_s1 := x_s.fr 1
    replace q_t0 := x_t.c0; replace q_t1 := x_t.c1; replace f_t0 := x_t.fr 0; replace f_t1 := x_t.fr 1
    replace q_u0 := x_u.c0; replace q_u1 := x_u.c1; replace f_u0 := x_u.fr 0; replace f_u1 := x_u.fr 1
    clear q_a0 q_a1 f_a0 f_a1 q_b0 q_b1 f_b0 f_b1 q_q0 q_q1 f_q0 f_q1 q_r0 q_r1 f_r0 f_r1 q_s0 q_s1 f_s0 f_s1 q_t0 q_t1 f_t0 f_t1 q_u0 q_u1 f_u0 f_u1
    generalize v13.alloc (.cells #[.bool false, .slice none 0 0] 24) = v14 at *
    have q_a0 := x_a.c0; have q_a1 := x_a.c1; have f_a0 := x_a.fr 0; have f_a1 := x_a.fr 1
    have q_b0 := x_b.c0; have q_b1 := x_b.c1; have f_b0 := x_b.fr 0; have f_b1 := x_b.fr 1
    have q_q0 := x_q.c0; have q_q1 := x_q.c1; have f_q0 := x_q.fr 0; have f_q1 := x_q.fr 1
    have q_r0 := x_r.c0; have q_r1 := x_r.c1; have f_r0 := x_r.fr 0; have f_r1 := x_r.fr 1
    have q_s0 := x_s.c0; have q_s1 := x_s.c1; have f_s0 := x_s.fr 0; have f_s1 := x_s.fr 1
    have q_t0 := x_t.c0; have q_t1 := x_t.c1; have f_t0 := x_t.fr 0; have f_t1 := x_t.fr 1
    have q_u0 := x_u.c0; have q_u1 := x_u.c1; have f_u0 := x_u.fr 0; have f_u1 := x_u.fr 1
    have q_v0 := x_v.c0; have q_v1 := x_v.c1; have f_v0 := x_v.fr 0; have f_v1 := x_v.fr 1
    skip
    with_reducible refine (ZUp_zero za zb HB0.out).mono ?_
    rintro e v15 ⟨rfl, hb1⟩
    replace x_a := x_a.keep hb1
    replace x_b := x_b.keep hb1
    replace x_q := x_q.keep hb1
    replace x_r := x_r.keep hb1
    replace x_s := x_s.keep hb1
    replace x_t := x_t.keep hb1
    replace x_u := x_u.keep hb1
    replace x_v := x_v.keep hb1
    replace pa := pa.go hb1
    replace za := za.keep hb1
    replace pb := pb.go hb1
    replace zb := zb.keep hb1
    replace hb := bthen hb hb1
    clear hb1
    replace q_a0 := x_a.c0; replace q_a1 := x_a.c1; replace f_a0 := x_a.fr 0; replace f_a1 := x_a.fr 1
    replace q_b0 := x_b.c0; replace q_b1 := x_b.c1; replace f_b0 := x_b.fr 0; replace f_b1 := x_b.fr 1
    replace q_q0 := x_q.c0; replace q_q1 := x_q.c1; replace f_q0 := x_q.fr 0; replace f_q1 := x_q.fr 1
    replace q_r0 := x_r.c0; replace q_r1 := x_r.c1; replace f_r0 := x_r.fr 0; replace f_r1 := x_r.fr 1
    replace q_s0 := x_s.c0; replace q_s1 := x_s.c1; replace f_s0 := x_s.fr 0; replace f_s1 := x_s.fr 1
    replace q_t0 := x_t.c0; replace q_t1 := x_t.c1; replace f_t0 := x_t.fr 0; replace f_t1 := x_t.fr 1
    replace q_u0 := x_u.c0; replace q_u1 := x_u.c1; replace f_u0 := x_u.fr 0; replace f_u1 := x_u.fr 1
    replace q_v0 := x_v.c0; replace q_v1 := x_v.c1; replace f_v0 := x_v.fr 0; replace f_v1 := x_v.fr 1
    have y_a := (x_a.alloc (.cells #[.bool false, .slice none 0 0] 24)); have yq_a0 := y_a.c0; have yq_a1 := y_a.c1
    have y_b := (x_b.alloc (.cells #[.bool false, .slice none 0 0] 24)); have yq_b0 := y_b.c0; have yq_b1 := y_b.c1
    have y_q := (x_q.alloc (.cells #[.bool false, .slice none 0 0] 24)); have yq_q0 := y_q.c0; have yq_q1 := y_q.c1
    have y_r := (x_r.alloc (.cells #[.bool false, .slice none 0 0] 24)); have yq_r0 := y_r.c0; have yq_r1 := y_r.c1
    have y_s := (x_s.alloc (.cells #[.bool false, .slice none 0 0] 24)); have yq_s0 := y_s.c0; have yq_s1 := y_s.c1
    have y_t := (x_t.alloc (.cells #[.bool false, .slice none 0 0] 24)); have yq_t0 := y_t.c0; have yq_t1 := y_t.c1
    have y_u := (x_u.alloc (.cells #[.bool false, .slice none 0 0] 24)); have yq_u0 := y_u.c0; have yq_u1 := y_u.c1
    have y_v := (x_v.alloc (.cells #[.bool false, .slice none 0 0] 24)); have yq_v0 := y_v.c0; have yq_v1 := y_v.c1
    go_wp2_with fail
    clear y_a yq_a0 yq_a1 y_b yq_b0 yq_b1 y_q yq_q0 yq_q1 y_r yq_r0 yq_r1 y_s yq_s0 yq_s1 y_t yq_t0 yq_t1 y_u yq_u0 yq_u1 y_v yq_v0 yq_v1
    have hb1 := below_alloc v15 (.cells #[.bool false, .slice none 0 0] 24)
    have l_a_x := x_a.lt
    have l_b_x := x_b.lt
    have l_q_x := x_q.lt
    have l_r_x := x_r.lt
    have l_s_x := x_s.lt
    have l_t_x := x_t.lt
    have l_u_x := x_u.lt
    have l_v_x := x_v.lt
    have x_x := Bx.new v15 false none 0 0
    have e_x : w.heap.size ≤ v15.heap.size := hb.size
    replace x_a := x_a.keep hb1
    replace x_b := x_b.keep hb1
    replace x_q := x_q.keep hb1
    replace x_r := x_r.keep hb1
    replace x_s := x_s.keep hb1
    replace x_t := x_t.keep hb1
    replace x_u := x_u.keep hb1
    replace x_v := x_v.keep hb1
    replace pa := pa.go hb1
    replace za := za.keep hb1
    replace pb := pb.go hb1
    replace zb := zb.keep hb1
    replace hb := bthen hb hb1
    clear hb1
    replace q_a0 := x_a.c0; replace q_a1 := x_a.c1; replace f_a0 := x_a.fr 0; replace f_a1 := x_a.fr 1
    replace q_b0 := x_b.c0; replace q_b1 := x_b.c1; replace f_b0 := x_b.fr 0; replace f_b1 := x_b.fr 1
    replace q_q0 := x_q.c0; replace q_q1 := x_q.c1; replace f_q0 := x_q.fr 0; replace f_q1 := x_q.fr 1
    replace q_r0 := x_r.c0; replace q_r1 := x_r.c1; replace f_r0 := x_r.fr 0; replace f_r1 := x_r.fr 1
    replace q_s0 := x_s.c0; replace q_s1 := x_s.c1; replace f_s0 := x_s.fr 0; replace f_s1 := x_s.fr 1
    replace q_t0 := x_t.c0; replace q_t1 := x_t.c1; replace f_t0 := x_t.fr 0; replace f_t1 := x_t.fr 1
    replace q_u0 := x_u.c0; replace q_u1 := x_u.c1; replace f_u0 := x_u.fr 0; replace f_u1 := x_u.fr 1
    replace q_v0 := x_v.c0; replace q_v1 := x_v.c1; replace f_v0 := x_v.fr 0; replace f_v1 := x_v.fr 1
    clear q_a0 q_a1 f_a0 f_a1 q_b0 q_b1 f_b0 f_b1 q_q0 q_q1 f_q0 f_q1 q_r0 q_r1 f_r0 f_r1 q_s0 q_s1 f_s0 f_s1 q_t0 q_t1 f_t0 f_t1 q_u0 q_u1 f_u0 f_u1 q_v0 q_v1 f_v0 f_v1
    generalize v15.alloc (.cells #[.bool false, .slice none 0 0] 24) = v16 at *
    have q_a0 := x_a.c0; have q_a1 := x_a.c1; have f_a0 := x_a.fr 0; have f_a1 := x_a.fr 1
    have q_b0 := x_b.c0; have q_b1 := x_b.c1; have f_b0 := x_b.fr 0; have f_b1 := x_b.fr 1
    have q_q0 := x_q.c0; have q_q1 := x_q.c1; have f_q0 := x_q.fr 0; have f_q1 := x_q.fr 1
    have q_r0 := x_r.c0; have q_r1 := x_r.c1; have f_r0 := x_r.fr 0; have f_r1 := x_r.fr 1
    have q_s0 := x_s.c0; have q_s1 := x_s.c1; have f_s0 := x_s.fr 0; have f_s1 := x_s.fr 1
    have q_t0 := x_t.c0; have q_t1 := x_t.c1; have f_t0 := x_t.fr 0; have f_t1 := x_t.fr 1
    have q_u0 := x_u.c0; have q_u1 := x_u.c1; have f_u0 := x_u.fr 0; have f_u1 := x_u.fr 1
    have q_v0 := x_v.c0; have q_v1 := x_v.c1; have f_v0 := x_v.fr 0; have f_v1 := x_v.fr 1
    have q_x0 := x_x.c0; have q_x1 := x_x.c1; have f_x0 := x_x.fr 0; have f_x1 := x_x.fr 1
    skip
    with_reducible refine (RUpZ_zero za zb HB0.out (by omega)).mono ?_
    rintro e v17 ⟨rfl, hb1⟩
    replace x_a := x_a.keep hb1
    replace x_b := x_b.keep hb1
    replace x_q := x_q.keep hb1
    replace x_r := x_r.keep hb1
    replace x_s := x_s.keep hb1
    replace x_t := x_t.keep hb1
    replace x_u := x_u.keep hb1
    replace x_v := x_v.keep hb1
    replace x_x := x_x.keep hb1
    replace pa := pa.go hb1
    replace za := za.keep hb1
    replace pb := pb.go hb1
    replace zb := zb.keep hb1
    replace hb := bthen hb hb1
    clear hb1
    replace q_a0 := x_a.c0; replace q_a1 := x_a.c1; replace f_a0 := x_a.fr 0; replace f_a1 := x_a.fr 1
    replace q_b0 := x_b.c0; replace q_b1 := x_b.c1; replace f_b0 := x_b.fr 0; replace f_b1 := x_b.fr 1
    replace q_q0 := x_q.c0; replace q_q1 := x_q.c1; replace f_q0 := x_q.fr 0; replace f_q1 := x_q.fr 1
    replace q_r0 := x_r.c0; replace q_r1 := x_r.c1; replace f_r0 := x_r.fr 0; replace f_r1 := x_r.fr 1
    replace q_s0 := x_s.c0; replace q_s1 := x_s.c1; replace f_s0 := x_s.fr 0; replace f_s1 := x_s.fr 1
    replace q_t0 := x_t.c0; replace q_t1 := x_t.c1; replace f_t0 := x_t.fr 0; replace f_t1 := x_t.fr 1
    replace q_u0 := x_u.c0; replace q_u1 := x_u.c1; replace f_u0 := x_u.fr 0; replace f_u1 := x_u.fr 1
    replace q_v0 := x_v.c0; replace q_v1 := x_v.c1; replace f_v0 := x_v.fr 0; replace f_v1 := x_v.fr 1
    replace q_x0 := x_x.c0; replace q_x1 := x_x.c1; replace f_x0 := x_x.fr 0; replace f_x1 := x_x.fr 1
    have y_a := (x_a.alloc (.cells #[.bool false, .slice none 0 0] 24)); have yq_a0 := y_a.c0; have yq_a1 := y_a.c1
    have y_b := (x_b.alloc (.cells #[.bool false, .slice none 0 0] 24)); have yq_b0 := y_b.c0; have yq_b1 := y_b.c1
    have y_q := (x_q.alloc (.cells #[.bool false, .slice none 0 0] 24)); have yq_q0 := y_q.c0; have yq_q1 := y_q.c1
    have y_r := (x_r.alloc (.cells #[.bool false, .slice none 0 0] 24)); have yq_r0 := y_r.c0; have yq_r1 := y_r.c1
    have y_s := (x_s.alloc (.cells #[.bool false, .slice none 0 0] 24)); have yq_s0 := y_s.c0; have yq_s1 := y_s.c1
    have y_t := (x_t.alloc (.cells #[.bool false, .slice none 0 0] 24)); have yq_t0 := y_t.c0; have yq_t1 := y_t.c1
    have y_u := (x_u.alloc (.cells #[.bool false, .slice none 0 0] 24)); have yq_u0 := y_u.c0; have yq_u1 := y_u.c1
    have y_v := (x_v.alloc (.cells #[.bool false, .slice none 0 0] 24)); have yq_v0 := y_v.c0; have yq_v1 := y_v.c1
    have y_x := (x_x.alloc (.cells #[.bool false, .slice none 0 0] 24)); have yq_x0 := y_x.c0; have yq_x1 := y_x.c1
    go_wp2_with fail
    clear y_a yq_a0 yq_a1 y_b yq_b0 yq_b1 y_q yq_q0 yq_q1 y_r yq_r0 yq_r1 y_s yq_s0 yq_s1 y_t yq_t0 yq_t1 y_u yq_u0 yq_u1 y_v yq_v0 yq_v1 y_x yq_x0 yq_x1
    have hb1 := below_alloc v17 (.cells #[.bool false, .slice none 0 0] 24)
    have l_a_y := x_a.lt
    have l_b_y := x_b.lt
    have l_q_y := x_q.lt
    have l_r_y := x_r.lt
    have l_s_y := x_s.lt
    have l_t_y := x_t.lt
    have l_u_y := x_u.lt
    have l_v_y := x_v.lt
    have l_x_y := x_x.lt
    have x_y := Bx.new v17 false none 0 0
    have e_y : w.heap.size ≤ v17.heap.size := hb.size
    replace x_a := x_a.keep hb1
    replace x_b := x_b.keep hb1
    replace x_q := x_q.keep hb1
    replace x_r := x_r.keep hb1
    replace x_s := x_s.keep hb1
    replace x_t := x_t.keep hb1
    replace x_u := x_u.keep hb1
    replace x_v := x_v.keep hb1
    replace x_x := x_x.keep hb1
    replace pa := pa.go hb1
    replace za := za.keep hb1
    replace pb := pb.go hb1
    replace zb := zb.keep hb1
    replace hb := bthen hb hb1
    clear hb1
    replace q_a0 := x_a.c0; replace q_a1 := x_a.c1; replace f_a0 := x_a.fr 0; replace f_a1 := x_a.fr 1
    replace q_b0 := x_b.c0; replace q_b1 := x_b.c1; replace f_b0 := x_b.fr 0; replace f_b1 := x_b.fr 1
    replace q_q0 := x_q.c0; replace q_q1 := x_q.c1; replace f_q0 := x_q.fr 0; replace f_q1 := x_q.fr 1
    replace q_r0 := x_r.c0; replace q_r1 := x_r.c1; replace f_r0 := x_r.fr 0; replace f_r1 := x_r.fr 1
    replace q_s0 := x_s.c0; replace q_s1 := x_s.c1; replace f_s0 := x_s.fr 0; replace f_s1 := x_s.fr 1
    replace q_t0 := x_t.c0; replace q_t1 := x_t.c1; replace f_t0 := x_t.fr 0; replace f_t1 := x_t.fr 1
    replace q_u0 := x_u.c0; replace q_u1 := x_u.c1; replace f_u0 := x_u.fr 0; replace f_u1 := x_u.fr 1
    replace q_v0 := x_v.c0; replace q_v1 := x_v.c1; replace f_v0 := x_v.fr 0; replace f_v1 := x_v.fr 1
    replace q_x0 := x_x.c0; replace q_x1 := x_x.c1; replace f_x0 := x_x.fr 0; replace f_x1 := x_x.fr 1
    clear q_a0 q_a1 f_a0 f_a1 q_b0 q_b1 f_b0 f_b1 q_q0 q_q1 f_q0 f_q1 q_r0 q_r1 f_r0 f_r1 q_s0 q_s1 f_s0 f_s1 q_t0 q_t1 f_t0 f_t1 q_u0 q_u1 f_u0 f_u1 q_v0 q_v1 f_v0 f_v1 q_x0 q_x1 f_x0 f_x1
    generalize v17.alloc (.cells #[.bool false, .slice none 0 0] 24) = v18 at *
    have q_a0 := x_a.c0; have q_a1 := x_a.c1; have f_a0 := x_a.fr 0; have f_a1 := x_a.fr 1
    have q_b0 := x_b.c0; have q_b1 := x_b.c1; have f_b0 := x_b.fr 0; have f_b1 := x_b.fr 1
    have q_q0 := x_q.c0; have q_q1 := x_q.c1; have f_q0 := x_q.fr 0; have f_q1 := x_q.fr 1
    have q_r0 := x_r.c0; have q_r1 := x_r.c1; have f_r0 := x_r.fr 0; have f_r1 := x_r.fr 1
    have q_s0 := x_s.c0; have q_s1 := x_s.c1; have f_s0 := x_s.fr 0; have f_s1 := x_s.fr 1
    have q_t0 := x_t.c0; have q_t1 := x_t.c1; have f_t0 := x_t.fr 0; have f_t1 := x_t.fr 1
    have q_u0 := x_u.c0; have q_u1 := x_u.c1; have f_u0 := x_u.fr 0; have f_u1 := x_u.fr 1
    have q_v0 := x_v.c0; have q_v1 := x_v.c1; have f_v0 := x_v.fr 0; have f_v1 := x_v.fr 1
    have q_x0 := x_x.c0; have q_x1 := x_x.c1; have f_x0 := x_x.fr 0; have f_x1 := x_x.fr 1
    have q_y0 := x_y.c0; have q_y1 := x_y.c1; have f_y0 := x_y.fr 0; have f_y1 := x_y.fr 1
    skip
    with_reducible refine (Zequal_nil _).mono ?_
    rintro e v19 ⟨rfl, hb1⟩
    replace x_a := x_a.keep hb1
    replace x_b := x_b.keep hb1
    replace x_q := x_q.keep hb1
    replace x_r := x_r.keep hb1
    replace x_s := x_s.keep hb1
    replace x_t := x_t.keep hb1
    replace x_u := x_u.keep hb1
    replace x_v := x_v.keep hb1
    replace x_x := x_x.keep hb1
    replace x_y := x_y.keep hb1
    replace pa := pa.go hb1
    replace za := za.keep hb1
    replace pb := pb.go hb1
    replace zb := zb.keep hb1
    replace hb := bthen hb hb1
    clear hb1
    replace q_a0 := x_a.c0; replace q_a1 := x_a.c1; replace f_a0 := x_a.fr 0; replace f_a1 := x_a.fr 1
    replace q_b0 := x_b.c0; replace q_b1 := x_b.c1; replace f_b0 := x_b.fr 0; replace f_b1 := x_b.fr 1
    replace q_q0 := x_q.c0; replace q_q1 := x_q.c1; replace f_q0 := x_q.fr 0; replace f_q1 := x_q.fr 1
    replace q_r0 := x_r.c0; replace q_r1 := x_r.c1; replace f_r0 := x_r.fr 0; replace f_r1 := x_r.fr 1
    replace q_s0 := x_s.c0; replace q_s1 := x_s.c1; replace f_s0 := x_s.fr 0; replace f_s1 := x_s.fr 1
    replace q_t0 := x_t.c0; replace q_t1 := x_t.c1; replace f_t0 := x_t.fr 0; replace f_t1 := x_t.fr 1
    replace q_u0 := x_u.c0; replace q_u1 := x_u.c1; replace f_u0 := x_u.fr 0; replace f_u1 := x_u.fr 1
    replace q_v0 := x_v.c0; replace q_v1 := x_v.c1; replace f_v0 := x_v.fr 0; replace f_v1 := x_v.fr 1
    replace q_x0 := x_x.c0; replace q_x1 := x_x.c1; replace f_x0 := x_x.fr 0; replace f_x1 := x_x.fr 1
    replace q_y0 := x_y.c0; replace q_y1 := x_y.c1; replace f_y0 := x_y.fr 0; replace f_y1 := x_y.fr 1
    go_wp2_with fail
    with_reducible refine (Zequal_nil _).mono ?_
    rintro e v20 ⟨rfl, hb1⟩
    replace x_a := x_a.keep hb1
    replace x_b := x_b.keep hb1
    replace x_q := x_q.keep hb1
    replace x_r := x_r.keep hb1
    replace x_s := x_s.keep hb1
    replace x_t := x_t.keep hb1
    replace x_u := x_u.keep hb1
    replace x_v := x_v.keep hb1
    replace x_x := x_x.keep hb1
    replace x_y := x_y.keep hb1
    replace pa := pa.go hb1
    replace za := za.keep hb1
    replace pb := pb.go hb1
    replace zb := zb.keep hb1
    replace hb := bthen hb hb1
    clear hb1
    replace q_a0 := x_a.c0; replace q_a1 := x_a.c1; replace f_a0 := x_a.fr 0; replace f_a1 := x_a.fr 1
    replace q_b0 := x_b.c0; replace q_b1 := x_b.c1; replace f_b0 := x_b.fr 0; replace f_b1 := x_b.fr 1
    replace q_q0 := x_q.c0; replace q_q1 := x_q.c1; replace f_q0 := x_q.fr 0; replace f_q1 := x_q.fr 1
    replace q_r0 := x_r.c0; replace q_r1 := x_r.c1; replace f_r0 := x_r.fr 0; replace f_r1 := x_r.fr 1
    replace q_s0 := x_s.c0; replace q_s1 := x_s.c1; replace f_s0 := x_s.fr 0; replace f_s1 := x_s.fr 1
    replace q_t0 := x_t.c0; replace q_t1 := x_t.c1; replace f_t0 := x_t.fr 0; replace f_t1 := x_t.fr 1
    replace q_u0 := x_u.c0; replace q_u1 := x_u.c1; replace f_u0 := x_u.fr 0; replace f_u1 := x_u.fr 1
    replace q_v0 := x_v.c0; replace q_v1 := x_v.c1; replace f_v0 := x_v.fr 0; replace f_v1 := x_v.fr 1
    replace q_x0 := x_x.c0; replace q_x1 := x_x.c1; replace f_x0 := x_x.fr 0; replace f_x1 := x_x.fr 1
    replace q_y0 := x_y.c0; replace q_y1 := x_y.c1; replace f_y0 := x_y.fr 0; replace f_y1 := x_y.fr 1
    go_wp2_with fail
    with_reducible refine (Zequal_nil _).mono ?_
    rintro e v21 ⟨rfl, hb1⟩
    replace x_a := x_a.keep hb1
    replace x_b := x_b.keep hb1
    replace x_q := x_q.keep hb1
    replace x_r := x_r.keep hb1
    replace x_s := x_s.keep hb1
    replace x_t := x_t.keep hb1
    replace x_u := x_u.keep hb1
    replace x_v := x_v.keep hb1
    replace x_x := x_x.keep hb1
    replace x_y := x_y.keep hb1
    replace pa := pa.go hb1
    replace za := za.keep hb1
    replace pb := pb.go hb1
    replace zb := zb.keep hb1
    replace hb := bthen hb hb1
    clear hb1
    replace q_a0 := x_a.c0; replace q_a1 := x_a.c1; replace f_a0 := x_a.fr 0; replace f_a1 := x_a.fr 1
    replace q_b0 := x_b.c0; replace q_b1 := x_b.c1; replace f_b0 := x_b.fr 0; replace f_b1 := x_b.fr 1
    replace q_q0 := x_q.c0; replace q_q1 := x_q.c1; replace f_q0 := x_q.fr 0; replace f_q1 := x_q.fr 1
    replace q_r0 := x_r.c0; replace q_r1 := x_r.c1; replace f_r0 := x_r.fr 0; replace f_r1 := x_r.fr 1
    replace q_s0 := x_s.c0; replace q_s1 := x_s.c1; replace f_s0 := x_s.fr 0; replace f_s1 := x_s.fr 1
    replace q_t0 := x_t.c0; replace q_t1 := x_t.c1; replace f_t0 := x_t.fr 0; replace f_t1 := x_t.fr 1
    replace q_u0 := x_u.c0; replace q_u1 := x_u.c1; replace f_u0 := x_u.fr 0; replace f_u1 := x_u.fr 1
    replace q_v0 := x_v.c0; replace q_v1 := x_v.c1; replace f_v0 := x_v.fr 0; replace f_v1 := x_v.fr 1
    replace q_x0 := x_x.c0; replace q_x1 := x_x.c1; replace f_x0 := x_x.fr 0; replace f_x1 := x_x.fr 1
    replace q_y0 := x_y.c0; replace q_y1 := x_y.c1; replace f_y0 := x_y.fr 0; replace f_y1 := x_y.fr 1
    go_wp2_with fail
    with_reducible refine (Zequal_nil _).mono ?_
    rintro e v22 ⟨rfl, hb1⟩
    replace x_a := x_a.keep hb1
    replace x_b := x_b.keep hb1
    replace x_q := x_q.keep hb1
    replace x_r := x_r.keep hb1
    replace x_s := x_s.keep hb1
    replace x_t := x_t.keep hb1
    replace x_u := x_u.keep hb1
    replace x_v := x_v.keep hb1
    replace x_x := x_x.keep hb1
    replace x_y := x_y.keep hb1
    replace pa := pa.go hb1
    replace za := za.keep hb1
    replace pb := pb.go hb1
    replace zb := zb.keep hb1
    replace hb := bthen hb hb1
    clear hb1
    replace q_a0 := x_a.c0; replace q_a1 := x_a.c1; replace f_a0 := x_a.fr 0; replace f_a1 := x_a.fr 1
    replace q_b0 := x_b.c0; replace q_b1 := x_b.c1; replace f_b0 := x_b.fr 0; replace f_b1 := x_b.fr 1
    replace q_q0 := x_q.c0; replace q_q1 := x_q.c1; replace f_q0 := x_q.fr 0; replace f_q1 := x_q.fr 1
    replace q_r0 := x_r.c0; replace q_r1 := x_r.c1; replace f_r0 := x_r.fr 0; replace f_r1 := x_r.fr 1
    replace q_s0 := x_s.c0; replace q_s1 := x_s.c1; replace f_s0 := x_s.fr 0; replace f_s1 := x_s.fr 1
    replace q_t0 := x_t.c0; replace q_t1 := x_t.c1; replace f_t0 := x_t.fr 0; replace f_t1 := x_t.fr 1
    replace q_u0 := x_u.c0; replace q_u1 := x_u.c1; replace f_u0 := x_u.fr 0; replace f_u1 := x_u.fr 1
    replace q_v0 := x_v.c0; replace q_v1 := x_v.c1; replace f_v0 := x_v.fr 0; replace f_v1 := x_v.fr 1
    replace q_x0 := x_x.c0; replace q_x1 := x_x.c1; replace f_x0 := x_x.fr 0; replace f_x1 := x_x.fr 1
    replace q_y0 := x_y.c0; replace q_y1 := x_y.c1; replace f_y0 := x_y.fr 0; replace f_y1 := x_y.fr 1
    go_wp2_with fail
    go_region_held3 (fun w' => w'.cell? ⟨w.heap.size, 0, none⟩ = some (.bool b) ∧ w'.cell? ⟨w.heap.size, 1, none⟩ = some (.slice Aa_ na_ ca_) ∧ w'.cell? ⟨w.heap.size + 1, 0, none⟩ = some (.bool b2) ∧ w'.cell? ⟨w.heap.size + 1, 1, none⟩ = some (.slice Ab_ nb_ cb_))
      (first | (with_reducible exact ⟨x_a.c0, x_a.c1, x_b.c0, x_b.c1⟩) | (with_reducible exact ⟨(x_a.aside (by omega)).c0, (x_a.aside (by omega)).c1, (x_b.aside (by omega)).c0, (x_b.aside (by omega)).c1⟩) | (with_reducible exact ⟨((x_a.aside (by omega)).aside (by omega)).c0, ((x_a.aside (by omega)).aside (by omega)).c1, ((x_b.aside (by omega)).aside (by omega)).c0, ((x_b.aside (by omega)).aside (by omega)).c1⟩) | go_keep)
      (first | (go_at_call 14; (with_reducible refine (Zcut_at pa.drw 3 3 rfl (by omega)).mono ?_); rintro e v23 ⟨Ag, ng, cg, rfl, g1, k1, hb1⟩; replace hb1 := undrew hb1; replace x_a := x_a.keep hb1; replace x_b := x_b.keep hb1; replace x_q := x_q.keep hb1; replace x_r := x_r.keep hb1; replace x_s := x_s.keep hb1; replace x_t := x_t.keep hb1; replace x_u := x_u.keep hb1; replace x_v := x_v.keep hb1; replace x_x := x_x.keep hb1; replace x_y := x_y.keep hb1; replace pa := pa.go hb1; replace za := za.keep hb1; replace pb := pb.go hb1; replace zb := zb.keep hb1; replace hb := bthen hb hb1; clear hb1; replace q_a0 := x_a.c0; replace q_a1 := x_a.c1; replace f_a0 := x_a.fr 0; replace f_a1 := x_a.fr 1; replace q_b0 := x_b.c0; replace q_b1 := x_b.c1; replace f_b0 := x_b.fr 0; replace f_b1 := x_b.fr 1; replace q_q0 := x_q.c0; replace q_q1 := x_q.c1; replace f_q0 := x_q.fr 0; replace f_q1 := x_q.fr 1; replace q_r0 := x_r.c0; replace q_r1 := x_r.c1; replace f_r0 := x_r.fr 0; replace f_r1 := x_r.fr 1; replace q_s0 := x_s.c0; replace q_s1 := x_s.c1; replace f_s0 := x_s.fr 0; replace f_s1 := x_s.fr 1; replace q_t0 := x_t.c0; replace q_t1 := x_t.c1; replace f_t0 := x_t.fr 0; replace f_t1 := x_t.fr 1; replace q_u0 := x_u.c0; replace q_u1 := x_u.c1; replace f_u0 := x_u.fr 0; replace f_u1 := x_u.fr 1; replace q_v0 := x_v.c0; replace q_v1 := x_v.c1; replace f_v0 := x_v.fr 0; replace f_v1 := x_v.fr 1; replace q_x0 := x_x.c0; replace q_x1 := x_x.c1; replace f_x0 := x_x.fr 0; replace f_x1 := x_x.fr 1; replace q_y0 := x_y.c0; replace q_y1 := x_y.c1; replace f_y0 := x_y.fr 0; replace f_y1 := x_y.fr 1) | (go_at_call 14; (fail_if_success (have gx := g3)); (with_reducible refine (Zcut_at pb 3 3 rfl (by omega)).mono ?_); rintro e v24 ⟨Ah, nh, ch, rfl, g2, k2, hb1⟩; replace x_a := x_a.keep hb1; replace x_b := x_b.keep hb1; replace x_q := x_q.keep hb1; replace x_r := x_r.keep hb1; replace x_s := x_s.keep hb1; replace x_t := x_t.keep hb1; replace x_u := x_u.keep hb1; replace x_v := x_v.keep hb1; replace x_x := x_x.keep hb1; replace x_y := x_y.keep hb1; replace pa := pa.go hb1; replace za := za.keep hb1; replace pb := pb.go hb1; replace zb := zb.keep hb1; replace g1 := g1.go hb1; replace hb := bthen hb hb1; clear hb1; replace q_a0 := x_a.c0; replace q_a1 := x_a.c1; replace f_a0 := x_a.fr 0; replace f_a1 := x_a.fr 1; replace q_b0 := x_b.c0; replace q_b1 := x_b.c1; replace f_b0 := x_b.fr 0; replace f_b1 := x_b.fr 1; replace q_q0 := x_q.c0; replace q_q1 := x_q.c1; replace f_q0 := x_q.fr 0; replace f_q1 := x_q.fr 1; replace q_r0 := x_r.c0; replace q_r1 := x_r.c1; replace f_r0 := x_r.fr 0; replace f_r1 := x_r.fr 1; replace q_s0 := x_s.c0; replace q_s1 := x_s.c1; replace f_s0 := x_s.fr 0; replace f_s1 := x_s.fr 1; replace q_t0 := x_t.c0; replace q_t1 := x_t.c1; replace f_t0 := x_t.fr 0; replace f_t1 := x_t.fr 1; replace q_u0 := x_u.c0; replace q_u1 := x_u.c1; replace f_u0 := x_u.fr 0; replace f_u1 := x_u.fr 1; replace q_v0 := x_v.c0; replace q_v1 := x_v.c1; replace f_v0 := x_v.fr 0; replace f_v1 := x_v.fr 1; replace q_x0 := x_x.c0; replace q_x1 := x_x.c1; replace f_x0 := x_x.fr 0; replace f_x1 := x_x.fr 1; replace q_y0 := x_y.c0; replace q_y1 := x_y.c1; replace f_y0 := x_y.fr 0; replace f_y1 := x_y.fr 1) | (go_at_call 47; (with_reducible refine (ZGcd_any (Zr.of g1 k1) (Zr.of g2 k2) 3 (by omega) (by omega) (by omega)).mono ?_); rintro e v25 ⟨Ai, ni, ci, rfl, s1, hb1⟩; replace x_a := x_a.keep hb1; replace x_b := x_b.keep hb1; replace x_q := x_q.keep hb1; replace x_r := x_r.keep hb1; replace x_s := x_s.keep hb1; replace x_t := x_t.keep hb1; replace x_u := x_u.keep hb1; replace x_v := x_v.keep hb1; replace x_x := x_x.keep hb1; replace x_y := x_y.keep hb1; replace pa := pa.go hb1; replace za := za.keep hb1; replace pb := pb.go hb1; replace zb := zb.keep hb1; replace g1 := g1.go hb1; replace g2 := g2.go hb1; replace hb := bthen hb hb1; clear hb1; replace q_a0 := x_a.c0; replace q_a1 := x_a.c1; replace f_a0 := x_a.fr 0; replace f_a1 := x_a.fr 1; replace q_b0 := x_b.c0; replace q_b1 := x_b.c1; replace f_b0 := x_b.fr 0; replace f_b1 := x_b.fr 1; replace q_q0 := x_q.c0; replace q_q1 := x_q.c1; replace f_q0 := x_q.fr 0; replace f_q1 := x_q.fr 1; replace q_r0 := x_r.c0; replace q_r1 := x_r.c1; replace f_r0 := x_r.fr 0; replace f_r1 := x_r.fr 1; replace q_s0 := x_s.c0; replace q_s1 := x_s.c1; replace f_s0 := x_s.fr 0; replace f_s1 := x_s.fr 1; replace q_t0 := x_t.c0; replace q_t1 := x_t.c1; replace f_t0 := x_t.fr 0; replace f_t1 := x_t.fr 1; replace q_u0 := x_u.c0; replace q_u1 := x_u.c1; replace f_u0 := x_u.fr 0; replace f_u1 := x_u.fr 1; replace q_v0 := x_v.c0; replace q_v1 := x_v.c1; replace f_v0 := x_v.fr 0; replace f_v1 := x_v.fr 1; replace q_x0 := x_x.c0; replace q_x1 := x_x.c1; replace f_x0 := x_x.fr 0; replace f_x1 := x_x.fr 1; replace q_y0 := x_y.c0; replace q_y1 := x_y.c1; replace f_y0 := x_y.fr 0; replace f_y1 := x_y.fr 1) | (go_at_call 14; (with_reducible refine (Zcut_at pa 3 3 rfl (by omega)).mono ?_); rintro e v26 ⟨Aj, nj, cj, rfl, g3, k3, hb1⟩; replace x_a := x_a.keep hb1; replace x_b := x_b.keep hb1; replace x_q := x_q.keep hb1; replace x_r := x_r.keep hb1; replace x_s := x_s.keep hb1; replace x_t := x_t.keep hb1; replace x_u := x_u.keep hb1; replace x_v := x_v.keep hb1; replace x_x := x_x.keep hb1; replace x_y := x_y.keep hb1; replace pa := pa.go hb1; replace za := za.keep hb1; replace pb := pb.go hb1; replace zb := zb.keep hb1; replace g1 := g1.go hb1; replace g2 := g2.go hb1; replace s1 := s1.keep hb1; replace hb := bthen hb hb1; clear hb1; replace q_a0 := x_a.c0; replace q_a1 := x_a.c1; replace f_a0 := x_a.fr 0; replace f_a1 := x_a.fr 1; replace q_b0 := x_b.c0; replace q_b1 := x_b.c1; replace f_b0 := x_b.fr 0; replace f_b1 := x_b.fr 1; replace q_q0 := x_q.c0; replace q_q1 := x_q.c1; replace f_q0 := x_q.fr 0; replace f_q1 := x_q.fr 1; replace q_r0 := x_r.c0; replace q_r1 := x_r.c1; replace f_r0 := x_r.fr 0; replace f_r1 := x_r.fr 1; replace q_s0 := x_s.c0; replace q_s1 := x_s.c1; replace f_s0 := x_s.fr 0; replace f_s1 := x_s.fr 1; replace q_t0 := x_t.c0; replace q_t1 := x_t.c1; replace f_t0 := x_t.fr 0; replace f_t1 := x_t.fr 1; replace q_u0 := x_u.c0; replace q_u1 := x_u.c1; replace f_u0 := x_u.fr 0; replace f_u1 := x_u.fr 1; replace q_v0 := x_v.c0; replace q_v1 := x_v.c1; replace f_v0 := x_v.fr 0; replace f_v1 := x_v.fr 1; replace q_x0 := x_x.c0; replace q_x1 := x_x.c1; replace f_x0 := x_x.fr 0; replace f_x1 := x_x.fr 1; replace q_y0 := x_y.c0; replace q_y1 := x_y.c1; replace f_y0 := x_y.fr 0; replace f_y1 := x_y.fr 1) | (go_at_call 14; (with_reducible refine (Zcut_at pb 3 3 rfl (by omega)).mono ?_); rintro e v27 ⟨Ak, nk, ck, rfl, g4, k4, hb1⟩; replace x_a := x_a.keep hb1; replace x_b := x_b.keep hb1; replace x_q := x_q.keep hb1; replace x_r := x_r.keep hb1; replace x_s := x_s.keep hb1; replace x_t := x_t.keep hb1; replace x_u := x_u.keep hb1; replace x_v := x_v.keep hb1; replace x_x := x_x.keep hb1; replace x_y := x_y.keep hb1; replace pa := pa.go hb1; replace za := za.keep hb1; replace pb := pb.go hb1; replace zb := zb.keep hb1; replace g1 := g1.go hb1; replace g2 := g2.go hb1; replace s1 := s1.keep hb1; replace g3 := g3.go hb1; replace hb := bthen hb hb1; clear hb1; replace q_a0 := x_a.c0; replace q_a1 := x_a.c1; replace f_a0 := x_a.fr 0; replace f_a1 := x_a.fr 1; replace q_b0 := x_b.c0; replace q_b1 := x_b.c1; replace f_b0 := x_b.fr 0; replace f_b1 := x_b.fr 1; replace q_q0 := x_q.c0; replace q_q1 := x_q.c1; replace f_q0 := x_q.fr 0; replace f_q1 := x_q.fr 1; replace q_r0 := x_r.c0; replace q_r1 := x_r.c1; replace f_r0 := x_r.fr 0; replace f_r1 := x_r.fr 1; replace q_s0 := x_s.c0; replace q_s1 := x_s.c1; replace f_s0 := x_s.fr 0; replace f_s1 := x_s.fr 1; replace q_t0 := x_t.c0; replace q_t1 := x_t.c1; replace f_t0 := x_t.fr 0; replace f_t1 := x_t.fr 1; replace q_u0 := x_u.c0; replace q_u1 := x_u.c1; replace f_u0 := x_u.fr 0; replace f_u1 := x_u.fr 1; replace q_v0 := x_v.c0; replace q_v1 := x_v.c1; replace f_v0 := x_v.fr 0; replace f_v1 := x_v.fr 1; replace q_x0 := x_x.c0; replace q_x1 := x_x.c1; replace f_x0 := x_x.fr 0; replace f_x1 := x_x.fr 1; replace q_y0 := x_y.c0; replace q_y1 := x_y.c1; replace f_y0 := x_y.fr 0; replace f_y1 := x_y.fr 1) | (go_at_call 48; (with_reducible refine (RGcdZ_any (Zr.of g3 k3) (Zr.of g4 k4) 3 (by omega) (by omega) (by omega)).mono ?_); rintro e v28 ⟨Al, nl, cl, rfl, s2, hb1⟩; replace x_a := x_a.keep hb1; replace x_b := x_b.keep hb1; replace x_q := x_q.keep hb1; replace x_r := x_r.keep hb1; replace x_s := x_s.keep hb1; replace x_t := x_t.keep hb1; replace x_u := x_u.keep hb1; replace x_v := x_v.keep hb1; replace x_x := x_x.keep hb1; replace x_y := x_y.keep hb1; replace pa := pa.go hb1; replace za := za.keep hb1; replace pb := pb.go hb1; replace zb := zb.keep hb1; replace g1 := g1.go hb1; replace g2 := g2.go hb1; replace s1 := s1.keep hb1; replace g3 := g3.go hb1; replace g4 := g4.go hb1; replace hb := bthen hb hb1; clear hb1; replace q_a0 := x_a.c0; replace q_a1 := x_a.c1; replace f_a0 := x_a.fr 0; replace f_a1 := x_a.fr 1; replace q_b0 := x_b.c0; replace q_b1 := x_b.c1; replace f_b0 := x_b.fr 0; replace f_b1 := x_b.fr 1; replace q_q0 := x_q.c0; replace q_q1 := x_q.c1; replace f_q0 := x_q.fr 0; replace f_q1 := x_q.fr 1; replace q_r0 := x_r.c0; replace q_r1 := x_r.c1; replace f_r0 := x_r.fr 0; replace f_r1 := x_r.fr 1; replace q_s0 := x_s.c0; replace q_s1 := x_s.c1; replace f_s0 := x_s.fr 0; replace f_s1 := x_s.fr 1; replace q_t0 := x_t.c0; replace q_t1 := x_t.c1; replace f_t0 := x_t.fr 0; replace f_t1 := x_t.fr 1; replace q_u0 := x_u.c0; replace q_u1 := x_u.c1; replace f_u0 := x_u.fr 0; replace f_u1 := x_u.fr 1; replace q_v0 := x_v.c0; replace q_v1 := x_v.c1; replace f_v0 := x_v.fr 0; replace f_v1 := x_v.fr 1; replace q_x0 := x_x.c0; replace q_x1 := x_x.c1; replace f_x0 := x_x.fr 0; replace f_x1 := x_x.fr 1; replace q_y0 := x_y.c0; replace q_y1 := x_y.c1; replace f_y0 := x_y.fr 0; replace f_y1 := x_y.fr 1) | (go_at_call 16; (with_reducible refine (Zequal_any s1 s2 rfl).mono ?_); rintro e v29 ⟨rfl, hb1⟩; replace x_a := x_a.keep hb1; replace x_b := x_b.keep hb1; replace x_q := x_q.keep hb1; replace x_r := x_r.keep hb1; replace x_s := x_s.keep hb1; replace x_t := x_t.keep hb1; replace x_u := x_u.keep hb1; replace x_v := x_v.keep hb1; replace x_x := x_x.keep hb1; replace x_y := x_y.keep hb1; replace pa := pa.go hb1; replace za := za.keep hb1; replace pb := pb.go hb1; replace zb := zb.keep hb1; replace g1 := g1.go hb1; replace g2 := g2.go hb1; replace s1 := s1.keep hb1; replace g3 := g3.go hb1; replace g4 := g4.go hb1; replace s2 := s2.keep hb1; replace hb := bthen hb hb1; clear hb1; replace q_a0 := x_a.c0; replace q_a1 := x_a.c1; replace f_a0 := x_a.fr 0; replace f_a1 := x_a.fr 1; replace q_b0 := x_b.c0; replace q_b1 := x_b.c1; replace f_b0 := x_b.fr 0; replace f_b1 := x_b.fr 1; replace q_q0 := x_q.c0; replace q_q1 := x_q.c1; replace f_q0 := x_q.fr 0; replace f_q1 := x_q.fr 1; replace q_r0 := x_r.c0; replace q_r1 := x_r.c1; replace f_r0 := x_r.fr 0; replace f_r1 := x_r.fr 1; replace q_s0 := x_s.c0; replace q_s1 := x_s.c1; replace f_s0 := x_s.fr 0; replace f_s1 := x_s.fr 1; replace q_t0 := x_t.c0; replace q_t1 := x_t.c1; replace f_t0 := x_t.fr 0; replace f_t1 := x_t.fr 1; replace q_u0 := x_u.c0; replace q_u1 := x_u.c1; replace f_u0 := x_u.fr 0; replace f_u1 := x_u.fr 1; replace q_v0 := x_v.c0; replace q_v1 := x_v.c1; replace f_v0 := x_v.fr 0; replace f_v1 := x_v.fr 1; replace q_x0 := x_x.c0; replace q_x1 := x_x.c1; replace f_x0 := x_x.fr 0; replace f_x1 := x_x.fr 1; replace q_y0 := x_y.c0; replace q_y1 := x_y.c1; replace f_y0 := x_y.fr 0; replace f_y1 := x_y.fr 1))
    go_wp2
    go_ret
    exact ⟨rfl, hb⟩
  · have HB0 := Lib.hid hB0; clear hB0
    skip
    with_reducible refine (ZDivMod_any za zb HB0.out 17 (by omega) (by omega) (by omega)).mono ?_
    rintro e v9 ⟨A7, n7, c7, A8, n8, c8, rfl, z_q, z_r, hb1⟩
    replace x_a := x_a.keep hb1
    replace x_b := x_b.keep hb1
    replace pa := pa.go hb1
    replace za := za.keep hb1
    replace pb := pb.go hb1
    replace zb := zb.keep hb1
    replace hb := bthen hb hb1
    clear hb1
    replace q_a0 := x_a.c0; replace q_a1 := x_a.c1; replace f_a0 := x_a.fr 0; replace f_a1 := x_a.fr 1
    replace q_b0 := x_b.c0; replace q_b1 := x_b.c1; replace f_b0 := x_b.fr 0; replace f_b1 := x_b.fr 1
    generalize hQ9 : A / B = Q at *
    generalize hR9 : A % B = RR at *
    have HQ := Lib.hid hQ9; have HR := Lib.hid hR9; clear hQ9 hR9
    have y_a := ((x_a.alloc (.cells #[.bool (ngB Q), .slice A7 n7 c7] 24)).alloc (.cells #[.bool (ngB RR), .slice A8 n8 c8] 24)); have yq_a0 := y_a.c0; have yq_a1 := y_a.c1
    have y_b := ((x_b.alloc (.cells #[.bool (ngB Q), .slice A7 n7 c7] 24)).alloc (.cells #[.bool (ngB RR), .slice A8 n8 c8] 24)); have yq_b0 := y_b.c0; have yq_b1 := y_b.c1
    go_wp2_with fail
    clear y_a yq_a0 yq_a1 y_b yq_b0 yq_b1
    have l_a_q := x_a.lt
    have l_b_q := x_b.lt
    have e_q : w.heap.size ≤ v9.heap.size := hb.size
    obtain ⟨hb1, x_q, x_r⟩ := box2 v9 (ngB Q) A7 n7 c7 (ngB RR) A8 n8 c8
    replace x_a := x_a.keep hb1
    replace x_b := x_b.keep hb1
    replace pa := pa.go hb1
    replace za := za.keep hb1
    replace pb := pb.go hb1
    replace zb := zb.keep hb1
    replace z_q := z_q.keep hb1
    replace z_r := z_r.keep hb1
    replace hb := bthen hb hb1
    clear hb1
    replace q_a0 := x_a.c0; replace q_a1 := x_a.c1; replace f_a0 := x_a.fr 0; replace f_a1 := x_a.fr 1
    replace q_b0 := x_b.c0; replace q_b1 := x_b.c1; replace f_b0 := x_b.fr 0; replace f_b1 := x_b.fr 1
    clear q_a0 q_a1 f_a0 f_a1 q_b0 q_b1 f_b0 f_b1
    generalize (v9.alloc (.cells #[.bool (ngB Q), .slice A7 n7 c7] 24)).alloc (.cells #[.bool (ngB RR), .slice A8 n8 c8] 24) = v10 at *
    have q_a0 := x_a.c0; have q_a1 := x_a.c1; have f_a0 := x_a.fr 0; have f_a1 := x_a.fr 1
    have q_b0 := x_b.c0; have q_b1 := x_b.c1; have f_b0 := x_b.fr 0; have f_b1 := x_b.fr 1
    have q_q0 := x_q.c0; have q_q1 := x_q.c1; have f_q0 := x_q.fr 0; have f_q1 := x_q.fr 1
    have q_r0 := x_r.c0; have q_r1 := x_r.c1; have f_r0 := x_r.fr 0; have f_r1 := x_r.fr 1
    skip
    with_reducible refine (RDivModZ_any za zb HB0.out 17 (by omega) (by omega) (by omega)).mono ?_
    rintro e v13 ⟨A11, n11, c11, A12, n12, c12, rfl, z_s, z_t, hb1⟩
    replace x_a := x_a.keep hb1
    replace x_b := x_b.keep hb1
    replace x_q := x_q.keep hb1
    replace x_r := x_r.keep hb1
    replace pa := pa.go hb1
    replace za := za.keep hb1
    replace pb := pb.go hb1
    replace zb := zb.keep hb1
    replace z_q := z_q.keep hb1
    replace z_r := z_r.keep hb1
    replace hb := bthen hb hb1
    clear hb1
    replace q_a0 := x_a.c0; replace q_a1 := x_a.c1; replace f_a0 := x_a.fr 0; replace f_a1 := x_a.fr 1
    replace q_b0 := x_b.c0; replace q_b1 := x_b.c1; replace f_b0 := x_b.fr 0; replace f_b1 := x_b.fr 1
    replace q_q0 := x_q.c0; replace q_q1 := x_q.c1; replace f_q0 := x_q.fr 0; replace f_q1 := x_q.fr 1
    replace q_r0 := x_r.c0; replace q_r1 := x_r.c1; replace f_r0 := x_r.fr 0; replace f_r1 := x_r.fr 1
    rw [HQ.out] at z_s ⊢
    rw [HR.out] at z_t ⊢
    have y_a := ((x_a.alloc (.cells #[.bool (ngB Q), .slice A11 n11 c11] 24)).alloc (.cells #[.bool (ngB RR), .slice A12 n12 c12] 24)); have yq_a0 := y_a.c0; have yq_a1 := y_a.c1
    have y_b := ((x_b.alloc (.cells #[.bool (ngB Q), .slice A11 n11 c11] 24)).alloc (.cells #[.bool (ngB RR), .slice A12 n12 c12] 24)); have yq_b0 := y_b.c0; have yq_b1 := y_b.c1
    have y_q := ((x_q.alloc (.cells #[.bool (ngB Q), .slice A11 n11 c11] 24)).alloc (.cells #[.bool (ngB RR), .slice A12 n12 c12] 24)); have yq_q0 := y_q.c0; have yq_q1 := y_q.c1
    have y_r := ((x_r.alloc (.cells #[.bool (ngB Q), .slice A11 n11 c11] 24)).alloc (.cells #[.bool (ngB RR), .slice A12 n12 c12] 24)); have yq_r0 := y_r.c0; have yq_r1 := y_r.c1
    go_wp2_with fail
    clear y_a yq_a0 yq_a1 y_b yq_b0 yq_b1 y_q yq_q0 yq_q1 y_r yq_r0 yq_r1
    have l_a_s := x_a.lt
    have l_b_s := x_b.lt
    have l_q_s := x_q.lt
    have l_r_s := x_r.lt
    have e_s : w.heap.size ≤ v13.heap.size := hb.size
    obtain ⟨hb1, x_s, x_t⟩ := box2 v13 (ngB Q) A11 n11 c11 (ngB RR) A12 n12 c12
    replace x_a := x_a.keep hb1
    replace x_b := x_b.keep hb1
    replace x_q := x_q.keep hb1
    replace x_r := x_r.keep hb1
    replace pa := pa.go hb1
    replace za := za.keep hb1
    replace pb := pb.go hb1
    replace zb := zb.keep hb1
    replace z_q := z_q.keep hb1
    replace z_r := z_r.keep hb1
    replace z_s := z_s.keep hb1
    replace z_t := z_t.keep hb1
    replace hb := bthen hb hb1
    clear hb1
    replace q_a0 := x_a.c0; replace q_a1 := x_a.c1; replace f_a0 := x_a.fr 0; replace f_a1 := x_a.fr 1
    replace q_b0 := x_b.c0; replace q_b1 := x_b.c1; replace f_b0 := x_b.fr 0; replace f_b1 := x_b.fr 1
    replace q_q0 := x_q.c0; replace q_q1 := x_q.c1; replace f_q0 := x_q.fr 0; replace f_q1 := x_q.fr 1
    replace q_r0 := x_r.c0; replace q_r1 := x_r.c1; replace f_r0 := x_r.fr 0; replace f_r1 := x_r.fr 1
    clear q_a0 q_a1 f_a0 f_a1 q_b0 q_b1 f_b0 f_b1 q_q0 q_q1 f_q0 f_q1 q_r0 q_r1 f_r0 f_r1
    generalize (v13.alloc (.cells #[.bool (ngB Q), .slice A11 n11 c11] 24)).alloc (.cells #[.bool (ngB RR), .slice A12 n12 c12] 24) = v14 at *
    have q_a0 := x_a.c0; have q_a1 := x_a.c1; have f_a0 := x_a.fr 0; have f_a1 := x_a.fr 1
    have q_b0 := x_b.c0; have q_b1 := x_b.c1; have f_b0 := x_b.fr 0; have f_b1 := x_b.fr 1
    have q_q0 := x_q.c0; have q_q1 := x_q.c1; have f_q0 := x_q.fr 0; have f_q1 := x_q.fr 1
    have q_r0 := x_r.c0; have q_r1 := x_r.c1; have f_r0 := x_r.fr 0; have f_r1 := x_r.fr 1
    have q_s0 := x_s.c0; have q_s1 := x_s.c1; have f_s0 := x_s.fr 0; have f_s1 := x_s.fr 1
    have q_t0 := x_t.c0; have q_t1 := x_t.c1; have f_t0 := x_t.fr 0; have f_t1 := x_t.fr 1
    skip
    with_reducible refine (ZRound_any za zb HB0.out 17 (by omega) (by omega) (by omega)).mono ?_
    rintro e v16 ⟨A15, n15, c15, rfl, z_u, hb1⟩
    replace x_a := x_a.keep hb1
    replace x_b := x_b.keep hb1
    replace x_q := x_q.keep hb1
    replace x_r := x_r.keep hb1
    replace x_s := x_s.keep hb1
    replace x_t := x_t.keep hb1
    replace pa := pa.go hb1
    replace za := za.keep hb1
    replace pb := pb.go hb1
    replace zb := zb.keep hb1
    replace z_q := z_q.keep hb1
    replace z_r := z_r.keep hb1
    replace z_s := z_s.keep hb1
    replace z_t := z_t.keep hb1
    replace hb := bthen hb hb1
    clear hb1
    replace q_a0 := x_a.c0; replace q_a1 := x_a.c1; replace f_a0 := x_a.fr 0; replace f_a1 := x_a.fr 1
    replace q_b0 := x_b.c0; replace q_b1 := x_b.c1; replace f_b0 := x_b.fr 0; replace f_b1 := x_b.fr 1
    replace q_q0 := x_q.c0; replace q_q1 := x_q.c1; replace f_q0 := x_q.fr 0; replace f_q1 := x_q.fr 1
    replace q_r0 := x_r.c0; replace q_r1 := x_r.c1; replace f_r0 := x_r.fr 0; replace f_r1 := x_r.fr 1
    replace q_s0 := x_s.c0; replace q_s1 := x_s.c1; replace f_s0 := x_s.fr 0; replace f_s1 := x_s.fr 1
    replace q_t0 := x_t.c0; replace q_t1 := x_t.c1; replace f_t0 := x_t.fr 0; replace f_t1 := x_t.fr 1
    have y_a := (x_a.alloc (.cells #[.bool (ngB (roundI A B)), .slice A15 n15 c15] 24)); have yq_a0 := y_a.c0; have yq_a1 := y_a.c1
    have y_b := (x_b.alloc (.cells #[.bool (ngB (roundI A B)), .slice A15 n15 c15] 24)); have yq_b0 := y_b.c0; have yq_b1 := y_b.c1
    have y_q := (x_q.alloc (.cells #[.bool (ngB (roundI A B)), .slice A15 n15 c15] 24)); have yq_q0 := y_q.c0; have yq_q1 := y_q.c1
    have y_r := (x_r.alloc (.cells #[.bool (ngB (roundI A B)), .slice A15 n15 c15] 24)); have yq_r0 := y_r.c0; have yq_r1 := y_r.c1
    have y_s := (x_s.alloc (.cells #[.bool (ngB (roundI A B)), .slice A15 n15 c15] 24)); have yq_s0 := y_s.c0; have yq_s1 := y_s.c1
    have y_t := (x_t.alloc (.cells #[.bool (ngB (roundI A B)), .slice A15 n15 c15] 24)); have yq_t0 := y_t.c0; have yq_t1 := y_t.c1
    go_wp2_with fail
    clear y_a yq_a0 yq_a1 y_b yq_b0 yq_b1 y_q yq_q0 yq_q1 y_r yq_r0 yq_r1 y_s yq_s0 yq_s1 y_t yq_t0 yq_t1
    have hb1 := below_alloc v16 (.cells #[.bool (ngB (roundI A B)), .slice A15 n15 c15] 24)
    have l_a_u := x_a.lt
    have l_b_u := x_b.lt
    have l_q_u := x_q.lt
    have l_r_u := x_r.lt
    have l_s_u := x_s.lt
    have l_t_u := x_t.lt
    have x_u := Bx.new v16 (ngB (roundI A B)) A15 n15 c15
    have e_u : w.heap.size ≤ v16.heap.size := hb.size
    replace x_a := x_a.keep hb1
    replace x_b := x_b.keep hb1
    replace x_q := x_q.keep hb1
    replace x_r := x_r.keep hb1
    replace x_s := x_s.keep hb1
    replace x_t := x_t.keep hb1
    replace pa := pa.go hb1
    replace za := za.keep hb1
    replace pb := pb.go hb1
    replace zb := zb.keep hb1
    replace z_q := z_q.keep hb1
    replace z_r := z_r.keep hb1
    replace z_s := z_s.keep hb1
    replace z_t := z_t.keep hb1
    replace z_u := z_u.keep hb1
    replace hb := bthen hb hb1
    clear hb1
    replace q_a0 := x_a.c0; replace q_a1 := x_a.c1; replace f_a0 := x_a.fr 0; replace f_a1 := x_a.fr 1
    replace q_b0 := x_b.c0; replace q_b1 := x_b.c1; replace f_b0 := x_b.fr 0; replace f_b1 := x_b.fr 1
    replace q_q0 := x_q.c0; replace q_q1 := x_q.c1; replace f_q0 := x_q.fr 0; replace f_q1 := x_q.fr 1
    replace q_r0 := x_r.c0; replace q_r1 := x_r.c1; replace f_r0 := x_r.fr 0; replace f_r1 := x_r.fr 1
    replace q_s0 := x_s.c0; replace q_s1 := x_s.c1; replace f_s0 := x_s.fr 0; replace f_s1 := x_s.fr 1
    replace q_t0 := x_t.c0; replace q_t1 := x_t.c1; replace f_t0 := x_t.fr 0; replace f_t1 := x_t.fr 1
    clear q_a0 q_a1 f_a0 f_a1 q_b0 q_b1 f_b0 f_b1 q_q0 q_q1 f_q0 f_q1 q_r0 q_r1 f_r0 f_r1 q_s0 q_s1 f_s0 f_s1 q_t0 q_t1 f_t0 f_t1
    generalize v16.alloc (.cells #[.bool (ngB (roundI A B)), .slice A15 n15 c15] 24) = v17 at *
    have q_a0 := x_a.c0; have q_a1 := x_a.c1; have f_a0 := x_a.fr 0; have f_a1 := x_a.fr 1
    have q_b0 := x_b.c0; have q_b1 := x_b.c1; have f_b0 := x_b.fr 0; have f_b1 := x_b.fr 1
    have q_q0 := x_q.c0; have q_q1 := x_q.c1; have f_q0 := x_q.fr 0; have f_q1 := x_q.fr 1
    have q_r0 := x_r.c0; have q_r1 := x_r.c1; have f_r0 := x_r.fr 0; have f_r1 := x_r.fr 1
    have q_s0 := x_s.c0; have q_s1 := x_s.c1; have f_s0 := x_s.fr 0; have f_s1 := x_s.fr 1
    have q_t0 := x_t.c0; have q_t1 := x_t.c1; have f_t0 := x_t.fr 0; have f_t1 := x_t.fr 1
    have q_u0 := x_u.c0; have q_u1 := x_u.c1; have f_u0 := x_u.fr 0; have f_u1 := x_u.fr 1
    skip
    with_reducible refine (RRoundZ_any za zb HB0.out 17 (by omega) (by omega) (by omega)).mono ?_
    rintro e v19 ⟨A18, n18, c18, rfl, z_v, hb1⟩
    replace x_a := x_a.keep hb1
    replace x_b := x_b.keep hb1
    replace x_q := x_q.keep hb1
    replace x_r := x_r.keep hb1
    replace x_s := x_s.keep hb1
    replace x_t := x_t.keep hb1
    replace x_u := x_u.keep hb1
    replace pa := pa.go hb1
    replace za := za.keep hb1
    replace pb := pb.go hb1
    replace zb := zb.keep hb1
    replace z_q := z_q.keep hb1
    replace z_r := z_r.keep hb1
    replace z_s := z_s.keep hb1
    replace z_t := z_t.keep hb1
    replace z_u := z_u.keep hb1
    replace hb := bthen hb hb1
    clear hb1
    replace q_a0 := x_a.c0; replace q_a1 := x_a.c1; replace f_a0 := x_a.fr 0; replace f_a1 := x_a.fr 1
    replace q_b0 := x_b.c0; replace q_b1 := x_b.c1; replace f_b0 := x_b.fr 0; replace f_b1 := x_b.fr 1
    replace q_q0 := x_q.c0; replace q_q1 := x_q.c1; replace f_q0 := x_q.fr 0; replace f_q1 := x_q.fr 1
    replace q_r0 := x_r.c0; replace q_r1 := x_r.c1; replace f_r0 := x_r.fr 0; replace f_r1 := x_r.fr 1
    replace q_s0 := x_s.c0; replace q_s1 := x_s.c1; replace f_s0 := x_s.fr 0; replace f_s1 := x_s.fr 1
    replace q_t0 := x_t.c0; replace q_t1 := x_t.c1; replace f_t0 := x_t.fr 0; replace f_t1 := x_t.fr 1
    replace q_u0 := x_u.c0; replace q_u1 := x_u.c1; replace f_u0 := x_u.fr 0; replace f_u1 := x_u.fr 1
    have y_a := (x_a.alloc (.cells #[.bool (ngB (roundI A B)), .slice A18 n18 c18] 24)); have yq_a0 := y_a.c0; have yq_a1 := y_a.c1
    have y_b := (x_b.alloc (.cells #[.bool (ngB (roundI A B)), .slice A18 n18 c18] 24)); have yq_b0 := y_b.c0; have yq_b1 := y_b.c1
    have y_q := (x_q.alloc (.cells #[.bool (ngB (roundI A B)), .slice A18 n18 c18] 24)); have yq_q0 := y_q.c0; have yq_q1 := y_q.c1
    have y_r := (x_r.alloc (.cells #[.bool (ngB (roundI A B)), .slice A18 n18 c18] 24)); have yq_r0 := y_r.c0; have yq_r1 := y_r.c1
    have y_s := (x_s.alloc (.cells #[.bool (ngB (roundI A B)), .slice A18 n18 c18] 24)); have yq_s0 := y_s.c0; have yq_s1 := y_s.c1
    have y_t := (x_t.alloc (.cells #[.bool (ngB (roundI A B)), .slice A18 n18 c18] 24)); have yq_t0 := y_t.c0; have yq_t1 := y_t.c1
    have y_u := (x_u.alloc (.cells #[.bool (ngB (roundI A B)), .slice A18 n18 c18] 24)); have yq_u0 := y_u.c0; have yq_u1 := y_u.c1
    go_wp2_with fail
    clear y_a yq_a0 yq_a1 y_b yq_b0 yq_b1 y_q yq_q0 yq_q1 y_r yq_r0 yq_r1 y_s yq_s0 yq_s1 y_t yq_t0 yq_t1 y_u yq_u0 yq_u1
    have hb1 := below_alloc v19 (.cells #[.bool (ngB (roundI A B)), .slice A18 n18 c18] 24)
    have l_a_v := x_a.lt
    have l_b_v := x_b.lt
    have l_q_v := x_q.lt
    have l_r_v := x_r.lt
    have l_s_v := x_s.lt
    have l_t_v := x_t.lt
    have l_u_v := x_u.lt
    have x_v := Bx.new v19 (ngB (roundI A B)) A18 n18 c18
    have e_v : w.heap.size ≤ v19.heap.size := hb.size
    replace x_a := x_a.keep hb1
    replace x_b := x_b.keep hb1
    replace x_q := x_q.keep hb1
    replace x_r := x_r.keep hb1
    replace x_s := x_s.keep hb1
    replace x_t := x_t.keep hb1
    replace x_u := x_u.keep hb1
    replace pa := pa.go hb1
    replace za := za.keep hb1
    replace pb := pb.go hb1
    replace zb := zb.keep hb1
    replace z_q := z_q.keep hb1
    replace z_r := z_r.keep hb1
    replace z_s := z_s.keep hb1
    replace z_t := z_t.keep hb1
    replace z_u := z_u.keep hb1
    replace z_v := z_v.keep hb1
    replace hb := bthen hb hb1
    clear hb1
    replace q_a0 := x_a.c0; replace q_a1 := x_a.c1; replace f_a0 := x_a.fr 0; replace f_a1 := x_a.fr 1
    replace q_b0 := x_b.c0; replace q_b1 := x_b.c1; replace f_b0 := x_b.fr 0; replace f_b1 := x_b.fr 1
    replace q_q0 := x_q.c0; replace q_q1 := x_q.c1; replace f_q0 := x_q.fr 0; replace f_q1 := x_q.fr 1
    replace q_r0 := x_r.c0; replace q_r1 := x_r.c1; replace f_r0 := x_r.fr 0; replace f_r1 := x_r.fr 1
    replace q_s0 := x_s.c0; replace q_s1 := x_s.c1; replace f_s0 := x_s.fr 0; replace f_s1 := x_s.fr 1
    replace q_t0 := x_t.c0; replace q_t1 := x_t.c1; replace f_t0 := x_t.fr 0; replace f_t1 := x_t.fr 1
    replace q_u0 := x_u.c0; replace q_u1 := x_u.c1; replace f_u0 := x_u.fr 0; replace f_u1 := x_u.fr 1
    clear q_a0 q_a1 f_a0 f_a1 q_b0 q_b1 f_b0 f_b1 q_q0 q_q1 f_q0 f_q1 q_r0 q_r1 f_r0 f_r1 q_s0 q_s1 f_s0 f_s1 q_t0 q_t1 f_t0 f_t1 q_u0 q_u1 f_u0 f_u1
    generalize v19.alloc (.cells #[.bool (ngB (roundI A B)), .slice A18 n18 c18] 24) = v20 at *
    have q_a0 := x_a.c0; have q_a1 := x_a.c1; have f_a0 := x_a.fr 0; have f_a1 := x_a.fr 1
    have q_b0 := x_b.c0; have q_b1 := x_b.c1; have f_b0 := x_b.fr 0; have f_b1 := x_b.fr 1
    have q_q0 := x_q.c0; have q_q1 := x_q.c1; have f_q0 := x_q.fr 0; have f_q1 := x_q.fr 1
    have q_r0 := x_r.c0; have q_r1 := x_r.c1; have f_r0 := x_r.fr 0; have f_r1 := x_r.fr 1
    have q_s0 := x_s.c0; have q_s1 := x_s.c1; have f_s0 := x_s.fr 0; have f_s1 := x_s.fr 1
    have q_t0 := x_t.c0; have q_t1 := x_t.c1; have f_t0 := x_t.fr 0; have f_t1 := x_t.fr 1
    have q_u0 := x_u.c0; have q_u1 := x_u.c1; have f_u0 := x_u.fr 0; have f_u1 := x_u.fr 1
    have q_v0 := x_v.c0; have q_v1 := x_v.c1; have f_v0 := x_v.fr 0; have f_v1 := x_v.fr 1
    skip
    with_reducible refine (ZUp_any za zb HB0.out 17 (by omega) (by omega) (by omega)).mono ?_
    rintro e v22 ⟨A21, n21, c21, rfl, z_x, hb1⟩
    replace x_a := x_a.keep hb1
    replace x_b := x_b.keep hb1
    replace x_q := x_q.keep hb1
    replace x_r := x_r.keep hb1
    replace x_s := x_s.keep hb1
    replace x_t := x_t.keep hb1
    replace x_u := x_u.keep hb1
    replace x_v := x_v.keep hb1
    replace pa := pa.go hb1
    replace za := za.keep hb1
    replace pb := pb.go hb1
    replace zb := zb.keep hb1
    replace z_q := z_q.keep hb1
    replace z_r := z_r.keep hb1
    replace z_s := z_s.keep hb1
    replace z_t := z_t.keep hb1
    replace z_u := z_u.keep hb1
    replace z_v := z_v.keep hb1
    replace hb := bthen hb hb1
    clear hb1
    replace q_a0 := x_a.c0; replace q_a1 := x_a.c1; replace f_a0 := x_a.fr 0; replace f_a1 := x_a.fr 1
    replace q_b0 := x_b.c0; replace q_b1 := x_b.c1; replace f_b0 := x_b.fr 0; replace f_b1 := x_b.fr 1
    replace q_q0 := x_q.c0; replace q_q1 := x_q.c1; replace f_q0 := x_q.fr 0; replace f_q1 := x_q.fr 1
    replace q_r0 := x_r.c0; replace q_r1 := x_r.c1; replace f_r0 := x_r.fr 0; replace f_r1 := x_r.fr 1
    replace q_s0 := x_s.c0; replace q_s1 := x_s.c1; replace f_s0 := x_s.fr 0; replace f_s1 := x_s.fr 1
    replace q_t0 := x_t.c0; replace q_t1 := x_t.c1; replace f_t0 := x_t.fr 0; replace f_t1 := x_t.fr 1
    replace q_u0 := x_u.c0; replace q_u1 := x_u.c1; replace f_u0 := x_u.fr 0; replace f_u1 := x_u.fr 1
    replace q_v0 := x_v.c0; replace q_v1 := x_v.c1; replace f_v0 := x_v.fr 0; replace f_v1 := x_v.fr 1
    have y_a := (x_a.alloc (.cells #[.bool (ngB (upI A B)), .slice A21 n21 c21] 24)); have yq_a0 := y_a.c0; have yq_a1 := y_a.c1
    have y_b := (x_b.alloc (.cells #[.bool (ngB (upI A B)), .slice A21 n21 c21] 24)); have yq_b0 := y_b.c0; have yq_b1 := y_b.c1
    have y_q := (x_q.alloc (.cells #[.bool (ngB (upI A B)), .slice A21 n21 c21] 24)); have yq_q0 := y_q.c0; have yq_q1 := y_q.c1
    have y_r := (x_r.alloc (.cells #[.bool (ngB (upI A B)), .slice A21 n21 c21] 24)); have yq_r0 := y_r.c0; have yq_r1 := y_r.c1
    have y_s := (x_s.alloc (.cells #[.bool (ngB (upI A B)), .slice A21 n21 c21] 24)); have yq_s0 := y_s.c0; have yq_s1 := y_s.c1
    have y_t := (x_t.alloc (.cells #[.bool (ngB (upI A B)), .slice A21 n21 c21] 24)); have yq_t0 := y_t.c0; have yq_t1 := y_t.c1
    have y_u := (x_u.alloc (.cells #[.bool (ngB (upI A B)), .slice A21 n21 c21] 24)); have yq_u0 := y_u.c0; have yq_u1 := y_u.c1
    have y_v := (x_v.alloc (.cells #[.bool (ngB (upI A B)), .slice A21 n21 c21] 24)); have yq_v0 := y_v.c0; have yq_v1 := y_v.c1
    go_wp2_with fail
    clear y_a yq_a0 yq_a1 y_b yq_b0 yq_b1 y_q yq_q0 yq_q1 y_r yq_r0 yq_r1 y_s yq_s0 yq_s1 y_t yq_t0 yq_t1 y_u yq_u0 yq_u1 y_v yq_v0 yq_v1
    have hb1 := below_alloc v22 (.cells #[.bool (ngB (upI A B)), .slice A21 n21 c21] 24)
    have l_a_x := x_a.lt
    have l_b_x := x_b.lt
    have l_q_x := x_q.lt
    have l_r_x := x_r.lt
    have l_s_x := x_s.lt
    have l_t_x := x_t.lt
    have l_u_x := x_u.lt
    have l_v_x := x_v.lt
    have x_x := Bx.new v22 (ngB (upI A B)) A21 n21 c21
    have e_x : w.heap.size ≤ v22.heap.size := hb.size
    replace x_a := x_a.keep hb1
    replace x_b := x_b.keep hb1
    replace x_q := x_q.keep hb1
    replace x_r := x_r.keep hb1
    replace x_s := x_s.keep hb1
    replace x_t := x_t.keep hb1
    replace x_u := x_u.keep hb1
    replace x_v := x_v.keep hb1
    replace pa := pa.go hb1
    replace za := za.keep hb1
    replace pb := pb.go hb1
    replace zb := zb.keep hb1
    replace z_q := z_q.keep hb1
    replace z_r := z_r.keep hb1
    replace z_s := z_s.keep hb1
    replace z_t := z_t.keep hb1
    replace z_u := z_u.keep hb1
    replace z_v := z_v.keep hb1
    replace z_x := z_x.keep hb1
    replace hb := bthen hb hb1
    clear hb1
    replace q_a0 := x_a.c0; replace q_a1 := x_a.c1; replace f_a0 := x_a.fr 0; replace f_a1 := x_a.fr 1
    replace q_b0 := x_b.c0; replace q_b1 := x_b.c1; replace f_b0 := x_b.fr 0; replace f_b1 := x_b.fr 1
    replace q_q0 := x_q.c0; replace q_q1 := x_q.c1; replace f_q0 := x_q.fr 0; replace f_q1 := x_q.fr 1
    replace q_r0 := x_r.c0; replace q_r1 := x_r.c1; replace f_r0 := x_r.fr 0; replace f_r1 := x_r.fr 1
    replace q_s0 := x_s.c0; replace q_s1 := x_s.c1; replace f_s0 := x_s.fr 0; replace f_s1 := x_s.fr 1
    replace q_t0 := x_t.c0; replace q_t1 := x_t.c1; replace f_t0 := x_t.fr 0; replace f_t1 := x_t.fr 1
    replace q_u0 := x_u.c0; replace q_u1 := x_u.c1; replace f_u0 := x_u.fr 0; replace f_u1 := x_u.fr 1
    replace q_v0 := x_v.c0; replace q_v1 := x_v.c1; replace f_v0 := x_v.fr 0; replace f_v1 := x_v.fr 1
    clear q_a0 q_a1 f_a0 f_a1 q_b0 q_b1 f_b0 f_b1 q_q0 q_q1 f_q0 f_q1 q_r0 q_r1 f_r0 f_r1 q_s0 q_s1 f_s0 f_s1 q_t0 q_t1 f_t0 f_t1 q_u0 q_u1 f_u0 f_u1 q_v0 q_v1 f_v0 f_v1
    generalize v22.alloc (.cells #[.bool (ngB (upI A B)), .slice A21 n21 c21] 24) = v23 at *
    have q_a0 := x_a.c0; have q_a1 := x_a.c1; have f_a0 := x_a.fr 0; have f_a1 := x_a.fr 1
    have q_b0 := x_b.c0; have q_b1 := x_b.c1; have f_b0 := x_b.fr 0; have f_b1 := x_b.fr 1
    have q_q0 := x_q.c0; have q_q1 := x_q.c1; have f_q0 := x_q.fr 0; have f_q1 := x_q.fr 1
    have q_r0 := x_r.c0; have q_r1 := x_r.c1; have f_r0 := x_r.fr 0; have f_r1 := x_r.fr 1
    have q_s0 := x_s.c0; have q_s1 := x_s.c1; have f_s0 := x_s.fr 0; have f_s1 := x_s.fr 1
    have q_t0 := x_t.c0; have q_t1 := x_t.c1; have f_t0 := x_t.fr 0; have f_t1 := x_t.fr 1
    have q_u0 := x_u.c0; have q_u1 := x_u.c1; have f_u0 := x_u.fr 0; have f_u1 := x_u.fr 1
    have q_v0 := x_v.c0; have q_v1 := x_v.c1; have f_v0 := x_v.fr 0; have f_v1 := x_v.fr 1
    have q_x0 := x_x.c0; have q_x1 := x_x.c1; have f_x0 := x_x.fr 0; have f_x1 := x_x.fr 1
    skip
    with_reducible refine (RUpZ_any za zb HB0.out 17 (by omega) (by omega) (by omega)).mono ?_
    rintro e v25 ⟨A24, n24, c24, rfl, z_y, hb1⟩
    replace x_a := x_a.keep hb1
    replace x_b := x_b.keep hb1
    replace x_q := x_q.keep hb1
    replace x_r := x_r.keep hb1
    replace x_s := x_s.keep hb1
    replace x_t := x_t.keep hb1
    replace x_u := x_u.keep hb1
    replace x_v := x_v.keep hb1
    replace x_x := x_x.keep hb1
    replace pa := pa.go hb1
    replace za := za.keep hb1
    replace pb := pb.go hb1
    replace zb := zb.keep hb1
    replace z_q := z_q.keep hb1
    replace z_r := z_r.keep hb1
    replace z_s := z_s.keep hb1
    replace z_t := z_t.keep hb1
    replace z_u := z_u.keep hb1
    replace z_v := z_v.keep hb1
    replace z_x := z_x.keep hb1
    replace hb := bthen hb hb1
    clear hb1
    replace q_a0 := x_a.c0; replace q_a1 := x_a.c1; replace f_a0 := x_a.fr 0; replace f_a1 := x_a.fr 1
    replace q_b0 := x_b.c0; replace q_b1 := x_b.c1; replace f_b0 := x_b.fr 0; replace f_b1 := x_b.fr 1
    replace q_q0 := x_q.c0; replace q_q1 := x_q.c1; replace f_q0 := x_q.fr 0; replace f_q1 := x_q.fr 1
    replace q_r0 := x_r.c0; replace q_r1 := x_r.c1; replace f_r0 := x_r.fr 0; replace f_r1 := x_r.fr 1
    replace q_s0 := x_s.c0; replace q_s1 := x_s.c1; replace f_s0 := x_s.fr 0; replace f_s1 := x_s.fr 1
    replace q_t0 := x_t.c0; replace q_t1 := x_t.c1; replace f_t0 := x_t.fr 0; replace f_t1 := x_t.fr 1
    replace q_u0 := x_u.c0; replace q_u1 := x_u.c1; replace f_u0 := x_u.fr 0; replace f_u1 := x_u.fr 1
    replace q_v0 := x_v.c0; replace q_v1 := x_v.c1; replace f_v0 := x_v.fr 0; replace f_v1 := x_v.fr 1
    replace q_x0 := x_x.c0; replace q_x1 := x_x.c1; replace f_x0 := x_x.fr 0; replace f_x1 := x_x.fr 1
    have y_a := (x_a.alloc (.cells #[.bool (ngB (upI A B)), .slice A24 n24 c24] 24)); have yq_a0 := y_a.c0; have yq_a1 := y_a.c1
    have y_b := (x_b.alloc (.cells #[.bool (ngB (upI A B)), .slice A24 n24 c24] 24)); have yq_b0 := y_b.c0; have yq_b1 := y_b.c1
    have y_q := (x_q.alloc (.cells #[.bool (ngB (upI A B)), .slice A24 n24 c24] 24)); have yq_q0 := y_q.c0; have yq_q1 := y_q.c1
    have y_r := (x_r.alloc (.cells #[.bool (ngB (upI A B)), .slice A24 n24 c24] 24)); have yq_r0 := y_r.c0; have yq_r1 := y_r.c1
    have y_s := (x_s.alloc (.cells #[.bool (ngB (upI A B)), .slice A24 n24 c24] 24)); have yq_s0 := y_s.c0; have yq_s1 := y_s.c1
    have y_t := (x_t.alloc (.cells #[.bool (ngB (upI A B)), .slice A24 n24 c24] 24)); have yq_t0 := y_t.c0; have yq_t1 := y_t.c1
    have y_u := (x_u.alloc (.cells #[.bool (ngB (upI A B)), .slice A24 n24 c24] 24)); have yq_u0 := y_u.c0; have yq_u1 := y_u.c1
    have y_v := (x_v.alloc (.cells #[.bool (ngB (upI A B)), .slice A24 n24 c24] 24)); have yq_v0 := y_v.c0; have yq_v1 := y_v.c1
    have y_x := (x_x.alloc (.cells #[.bool (ngB (upI A B)), .slice A24 n24 c24] 24)); have yq_x0 := y_x.c0; have yq_x1 := y_x.c1
    go_wp2_with fail
    clear y_a yq_a0 yq_a1 y_b yq_b0 yq_b1 y_q yq_q0 yq_q1 y_r yq_r0 yq_r1 y_s yq_s0 yq_s1 y_t yq_t0 yq_t1 y_u yq_u0 yq_u1 y_v yq_v0 yq_v1 y_x yq_x0 yq_x1
    have hb1 := below_alloc v25 (.cells #[.bool (ngB (upI A B)), .slice A24 n24 c24] 24)
    have l_a_y := x_a.lt
    have l_b_y := x_b.lt
    have l_q_y := x_q.lt
    have l_r_y := x_r.lt
    have l_s_y := x_s.lt
    have l_t_y := x_t.lt
    have l_u_y := x_u.lt
    have l_v_y := x_v.lt
    have l_x_y := x_x.lt
    have x_y := Bx.new v25 (ngB (upI A B)) A24 n24 c24
    have e_y : w.heap.size ≤ v25.heap.size := hb.size
    replace x_a := x_a.keep hb1
    replace x_b := x_b.keep hb1
    replace x_q := x_q.keep hb1
    replace x_r := x_r.keep hb1
    replace x_s := x_s.keep hb1
    replace x_t := x_t.keep hb1
    replace x_u := x_u.keep hb1
    replace x_v := x_v.keep hb1
    replace x_x := x_x.keep hb1
    replace pa := pa.go hb1
    replace za := za.keep hb1
    replace pb := pb.go hb1
    replace zb := zb.keep hb1
    replace z_q := z_q.keep hb1
    replace z_r := z_r.keep hb1
    replace z_s := z_s.keep hb1
    replace z_t := z_t.keep hb1
    replace z_u := z_u.keep hb1
    replace z_v := z_v.keep hb1
    replace z_x := z_x.keep hb1
    replace z_y := z_y.keep hb1
    replace hb := bthen hb hb1
    clear hb1
    replace q_a0 := x_a.c0; replace q_a1 := x_a.c1; replace f_a0 := x_a.fr 0; replace f_a1 := x_a.fr 1
    replace q_b0 := x_b.c0; replace q_b1 := x_b.c1; replace f_b0 := x_b.fr 0; replace f_b1 := x_b.fr 1
    replace q_q0 := x_q.c0; replace q_q1 := x_q.c1; replace f_q0 := x_q.fr 0; replace f_q1 := x_q.fr 1
    replace q_r0 := x_r.c0; replace q_r1 := x_r.c1; replace f_r0 := x_r.fr 0; replace f_r1 := x_r.fr 1
    replace q_s0 := x_s.c0; replace q_s1 := x_s.c1; replace f_s0 := x_s.fr 0; replace f_s1 := x_s.fr 1
    replace q_t0 := x_t.c0; replace q_t1 := x_t.c1; replace f_t0 := x_t.fr 0; replace f_t1 := x_t.fr 1
    replace q_u0 := x_u.c0; replace q_u1 := x_u.c1; replace f_u0 := x_u.fr 0; replace f_u1 := x_u.fr 1
    replace q_v0 := x_v.c0; replace q_v1 := x_v.c1; replace f_v0 := x_v.fr 0; replace f_v1 := x_v.fr 1
    replace q_x0 := x_x.c0; replace q_x1 := x_x.c1; replace f_x0 := x_x.fr 0; replace f_x1 := x_x.fr 1
    clear q_a0 q_a1 f_a0 f_a1 q_b0 q_b1 f_b0 f_b1 q_q0 q_q1 f_q0 f_q1 q_r0 q_r1 f_r0 f_r1 q_s0 q_s1 f_s0 f_s1 q_t0 q_t1 f_t0 f_t1 q_u0 q_u1 f_u0 f_u1 q_v0 q_v1 f_v0 f_v1 q_x0 q_x1 f_x0 f_x1
    generalize v25.alloc (.cells #[.bool (ngB (upI A B)), .slice A24 n24 c24] 24) = v26 at *
    have q_a0 := x_a.c0; have q_a1 := x_a.c1; have f_a0 := x_a.fr 0; have f_a1 := x_a.fr 1
    have q_b0 := x_b.c0; have q_b1 := x_b.c1; have f_b0 := x_b.fr 0; have f_b1 := x_b.fr 1
    have q_q0 := x_q.c0; have q_q1 := x_q.c1; have f_q0 := x_q.fr 0; have f_q1 := x_q.fr 1
    have q_r0 := x_r.c0; have q_r1 := x_r.c1; have f_r0 := x_r.fr 0; have f_r1 := x_r.fr 1
    have q_s0 := x_s.c0; have q_s1 := x_s.c1; have f_s0 := x_s.fr 0; have f_s1 := x_s.fr 1
    have q_t0 := x_t.c0; have q_t1 := x_t.c1; have f_t0 := x_t.fr 0; have f_t1 := x_t.fr 1
    have q_u0 := x_u.c0; have q_u1 := x_u.c1; have f_u0 := x_u.fr 0; have f_u1 := x_u.fr 1
    have q_v0 := x_v.c0; have q_v1 := x_v.c1; have f_v0 := x_v.fr 0; have f_v1 := x_v.fr 1
    have q_x0 := x_x.c0; have q_x1 := x_x.c1; have f_x0 := x_x.fr 0; have f_x1 := x_x.fr 1
    have q_y0 := x_y.c0; have q_y1 := x_y.c1; have f_y0 := x_y.fr 0; have f_y1 := x_y.fr 1
    skip
    with_reducible refine (Zequal_any z_q z_s rfl).mono ?_
    rintro e v27 ⟨rfl, hb1⟩
    replace x_a := x_a.keep hb1
    replace x_b := x_b.keep hb1
    replace x_q := x_q.keep hb1
    replace x_r := x_r.keep hb1
    replace x_s := x_s.keep hb1
    replace x_t := x_t.keep hb1
    replace x_u := x_u.keep hb1
    replace x_v := x_v.keep hb1
    replace x_x := x_x.keep hb1
    replace x_y := x_y.keep hb1
    replace pa := pa.go hb1
    replace za := za.keep hb1
    replace pb := pb.go hb1
    replace zb := zb.keep hb1
    replace z_q := z_q.keep hb1
    replace z_r := z_r.keep hb1
    replace z_s := z_s.keep hb1
    replace z_t := z_t.keep hb1
    replace z_u := z_u.keep hb1
    replace z_v := z_v.keep hb1
    replace z_x := z_x.keep hb1
    replace z_y := z_y.keep hb1
    replace hb := bthen hb hb1
    clear hb1
    replace q_a0 := x_a.c0; replace q_a1 := x_a.c1; replace f_a0 := x_a.fr 0; replace f_a1 := x_a.fr 1
    replace q_b0 := x_b.c0; replace q_b1 := x_b.c1; replace f_b0 := x_b.fr 0; replace f_b1 := x_b.fr 1
    replace q_q0 := x_q.c0; replace q_q1 := x_q.c1; replace f_q0 := x_q.fr 0; replace f_q1 := x_q.fr 1
    replace q_r0 := x_r.c0; replace q_r1 := x_r.c1; replace f_r0 := x_r.fr 0; replace f_r1 := x_r.fr 1
    replace q_s0 := x_s.c0; replace q_s1 := x_s.c1; replace f_s0 := x_s.fr 0; replace f_s1 := x_s.fr 1
    replace q_t0 := x_t.c0; replace q_t1 := x_t.c1; replace f_t0 := x_t.fr 0; replace f_t1 := x_t.fr 1
    replace q_u0 := x_u.c0; replace q_u1 := x_u.c1; replace f_u0 := x_u.fr 0; replace f_u1 := x_u.fr 1
    replace q_v0 := x_v.c0; replace q_v1 := x_v.c1; replace f_v0 := x_v.fr 0; replace f_v1 := x_v.fr 1
    replace q_x0 := x_x.c0; replace q_x1 := x_x.c1; replace f_x0 := x_x.fr 0; replace f_x1 := x_x.fr 1
    replace q_y0 := x_y.c0; replace q_y1 := x_y.c1; replace f_y0 := x_y.fr 0; replace f_y1 := x_y.fr 1
    go_wp2_with fail
    with_reducible refine (Zequal_any z_r z_t rfl).mono ?_
    rintro e v28 ⟨rfl, hb1⟩
    replace x_a := x_a.keep hb1
    replace x_b := x_b.keep hb1
    replace x_q := x_q.keep hb1
    replace x_r := x_r.keep hb1
    replace x_s := x_s.keep hb1
    replace x_t := x_t.keep hb1
    replace x_u := x_u.keep hb1
    replace x_v := x_v.keep hb1
    replace x_x := x_x.keep hb1
    replace x_y := x_y.keep hb1
    replace pa := pa.go hb1
    replace za := za.keep hb1
    replace pb := pb.go hb1
    replace zb := zb.keep hb1
    replace z_q := z_q.keep hb1
    replace z_r := z_r.keep hb1
    replace z_s := z_s.keep hb1
    replace z_t := z_t.keep hb1
    replace z_u := z_u.keep hb1
    replace z_v := z_v.keep hb1
    replace z_x := z_x.keep hb1
    replace z_y := z_y.keep hb1
    replace hb := bthen hb hb1
    clear hb1
    replace q_a0 := x_a.c0; replace q_a1 := x_a.c1; replace f_a0 := x_a.fr 0; replace f_a1 := x_a.fr 1
    replace q_b0 := x_b.c0; replace q_b1 := x_b.c1; replace f_b0 := x_b.fr 0; replace f_b1 := x_b.fr 1
    replace q_q0 := x_q.c0; replace q_q1 := x_q.c1; replace f_q0 := x_q.fr 0; replace f_q1 := x_q.fr 1
    replace q_r0 := x_r.c0; replace q_r1 := x_r.c1; replace f_r0 := x_r.fr 0; replace f_r1 := x_r.fr 1
    replace q_s0 := x_s.c0; replace q_s1 := x_s.c1; replace f_s0 := x_s.fr 0; replace f_s1 := x_s.fr 1
    replace q_t0 := x_t.c0; replace q_t1 := x_t.c1; replace f_t0 := x_t.fr 0; replace f_t1 := x_t.fr 1
    replace q_u0 := x_u.c0; replace q_u1 := x_u.c1; replace f_u0 := x_u.fr 0; replace f_u1 := x_u.fr 1
    replace q_v0 := x_v.c0; replace q_v1 := x_v.c1; replace f_v0 := x_v.fr 0; replace f_v1 := x_v.fr 1
    replace q_x0 := x_x.c0; replace q_x1 := x_x.c1; replace f_x0 := x_x.fr 0; replace f_x1 := x_x.fr 1
    replace q_y0 := x_y.c0; replace q_y1 := x_y.c1; replace f_y0 := x_y.fr 0; replace f_y1 := x_y.fr 1
    go_wp2_with fail
    with_reducible refine (Zequal_any z_u z_v rfl).mono ?_
    rintro e v29 ⟨rfl, hb1⟩
    replace x_a := x_a.keep hb1
    replace x_b := x_b.keep hb1
    replace x_q := x_q.keep hb1
    replace x_r := x_r.keep hb1
    replace x_s := x_s.keep hb1
    replace x_t := x_t.keep hb1
    replace x_u := x_u.keep hb1
    replace x_v := x_v.keep hb1
    replace x_x := x_x.keep hb1
    replace x_y := x_y.keep hb1
    replace pa := pa.go hb1
    replace za := za.keep hb1
    replace pb := pb.go hb1
    replace zb := zb.keep hb1
    replace z_q := z_q.keep hb1
    replace z_r := z_r.keep hb1
    replace z_s := z_s.keep hb1
    replace z_t := z_t.keep hb1
    replace z_u := z_u.keep hb1
    replace z_v := z_v.keep hb1
    replace z_x := z_x.keep hb1
    replace z_y := z_y.keep hb1
    replace hb := bthen hb hb1
    clear hb1
    replace q_a0 := x_a.c0; replace q_a1 := x_a.c1; replace f_a0 := x_a.fr 0; replace f_a1 := x_a.fr 1
    replace q_b0 := x_b.c0; replace q_b1 := x_b.c1; replace f_b0 := x_b.fr 0; replace f_b1 := x_b.fr 1
    replace q_q0 := x_q.c0; replace q_q1 := x_q.c1; replace f_q0 := x_q.fr 0; replace f_q1 := x_q.fr 1
    replace q_r0 := x_r.c0; replace q_r1 := x_r.c1; replace f_r0 := x_r.fr 0; replace f_r1 := x_r.fr 1
    replace q_s0 := x_s.c0; replace q_s1 := x_s.c1; replace f_s0 := x_s.fr 0; replace f_s1 := x_s.fr 1
    replace q_t0 := x_t.c0; replace q_t1 := x_t.c1; replace f_t0 := x_t.fr 0; replace f_t1 := x_t.fr 1
    replace q_u0 := x_u.c0; replace q_u1 := x_u.c1; replace f_u0 := x_u.fr 0; replace f_u1 := x_u.fr 1
    replace q_v0 := x_v.c0; replace q_v1 := x_v.c1; replace f_v0 := x_v.fr 0; replace f_v1 := x_v.fr 1
    replace q_x0 := x_x.c0; replace q_x1 := x_x.c1; replace f_x0 := x_x.fr 0; replace f_x1 := x_x.fr 1
    replace q_y0 := x_y.c0; replace q_y1 := x_y.c1; replace f_y0 := x_y.fr 0; replace f_y1 := x_y.fr 1
    go_wp2_with fail
    with_reducible refine (Zequal_any z_x z_y rfl).mono ?_
    rintro e v30 ⟨rfl, hb1⟩
    replace x_a := x_a.keep hb1
    replace x_b := x_b.keep hb1
    replace x_q := x_q.keep hb1
    replace x_r := x_r.keep hb1
    replace x_s := x_s.keep hb1
    replace x_t := x_t.keep hb1
    replace x_u := x_u.keep hb1
    replace x_v := x_v.keep hb1
    replace x_x := x_x.keep hb1
    replace x_y := x_y.keep hb1
    replace pa := pa.go hb1
    replace za := za.keep hb1
    replace pb := pb.go hb1
    replace zb := zb.keep hb1
    replace z_q := z_q.keep hb1
    replace z_r := z_r.keep hb1
    replace z_s := z_s.keep hb1
    replace z_t := z_t.keep hb1
    replace z_u := z_u.keep hb1
    replace z_v := z_v.keep hb1
    replace z_x := z_x.keep hb1
    replace z_y := z_y.keep hb1
    replace hb := bthen hb hb1
    clear hb1
    replace q_a0 := x_a.c0; replace q_a1 := x_a.c1; replace f_a0 := x_a.fr 0; replace f_a1 := x_a.fr 1
    replace q_b0 := x_b.c0; replace q_b1 := x_b.c1; replace f_b0 := x_b.fr 0; replace f_b1 := x_b.fr 1
    replace q_q0 := x_q.c0; replace q_q1 := x_q.c1; replace f_q0 := x_q.fr 0; replace f_q1 := x_q.fr 1
    replace q_r0 := x_r.c0; replace q_r1 := x_r.c1; replace f_r0 := x_r.fr 0; replace f_r1 := x_r.fr 1
    replace q_s0 := x_s.c0; replace q_s1 := x_s.c1; replace f_s0 := x_s.fr 0; replace f_s1 := x_s.fr 1
    replace q_t0 := x_t.c0; replace q_t1 := x_t.c1; replace f_t0 := x_t.fr 0; replace f_t1 := x_t.fr 1
    replace q_u0 := x_u.c0; replace q_u1 := x_u.c1; replace f_u0 := x_u.fr 0; replace f_u1 := x_u.fr 1
    replace q_v0 := x_v.c0; replace q_v1 := x_v.c1; replace f_v0 := x_v.fr 0; replace f_v1 := x_v.fr 1
    replace q_x0 := x_x.c0; replace q_x1 := x_x.c1; replace f_x0 := x_x.fr 0; replace f_x1 := x_x.fr 1
    replace q_y0 := x_y.c0; replace q_y1 := x_y.c1; replace f_y0 := x_y.fr 0; replace f_y1 := x_y.fr 1
    go_wp2_with fail
    go_region_held3 (fun w' => w'.cell? ⟨w.heap.size, 0, none⟩ = some (.bool b) ∧ w'.cell? ⟨w.heap.size, 1, none⟩ = some (.slice Aa_ na_ ca_) ∧ w'.cell? ⟨w.heap.size + 1, 0, none⟩ = some (.bool b2) ∧ w'.cell? ⟨w.heap.size + 1, 1, none⟩ = some (.slice Ab_ nb_ cb_))
      (first | (with_reducible exact ⟨x_a.c0, x_a.c1, x_b.c0, x_b.c1⟩) | (with_reducible exact ⟨(x_a.aside (by omega)).c0, (x_a.aside (by omega)).c1, (x_b.aside (by omega)).c0, (x_b.aside (by omega)).c1⟩) | (with_reducible exact ⟨((x_a.aside (by omega)).aside (by omega)).c0, ((x_a.aside (by omega)).aside (by omega)).c1, ((x_b.aside (by omega)).aside (by omega)).c0, ((x_b.aside (by omega)).aside (by omega)).c1⟩) | go_keep)
      (first | (go_at_call 14; (with_reducible refine (Zcut_at pa.drw 3 3 rfl (by omega)).mono ?_); rintro e v31 ⟨Ag, ng, cg, rfl, g1, k1, hb1⟩; replace hb1 := undrew hb1; replace x_a := x_a.keep hb1; replace x_b := x_b.keep hb1; replace x_q := x_q.keep hb1; replace x_r := x_r.keep hb1; replace x_s := x_s.keep hb1; replace x_t := x_t.keep hb1; replace x_u := x_u.keep hb1; replace x_v := x_v.keep hb1; replace x_x := x_x.keep hb1; replace x_y := x_y.keep hb1; replace pa := pa.go hb1; replace za := za.keep hb1; replace pb := pb.go hb1; replace zb := zb.keep hb1; replace z_q := z_q.keep hb1; replace z_r := z_r.keep hb1; replace z_s := z_s.keep hb1; replace z_t := z_t.keep hb1; replace z_u := z_u.keep hb1; replace z_v := z_v.keep hb1; replace z_x := z_x.keep hb1; replace z_y := z_y.keep hb1; replace hb := bthen hb hb1; clear hb1; replace q_a0 := x_a.c0; replace q_a1 := x_a.c1; replace f_a0 := x_a.fr 0; replace f_a1 := x_a.fr 1; replace q_b0 := x_b.c0; replace q_b1 := x_b.c1; replace f_b0 := x_b.fr 0; replace f_b1 := x_b.fr 1; replace q_q0 := x_q.c0; replace q_q1 := x_q.c1; replace f_q0 := x_q.fr 0; replace f_q1 := x_q.fr 1; replace q_r0 := x_r.c0; replace q_r1 := x_r.c1; replace f_r0 := x_r.fr 0; replace f_r1 := x_r.fr 1; replace q_s0 := x_s.c0; replace q_s1 := x_s.c1; replace f_s0 := x_s.fr 0; replace f_s1 := x_s.fr 1; replace q_t0 := x_t.c0; replace q_t1 := x_t.c1; replace f_t0 := x_t.fr 0; replace f_t1 := x_t.fr 1; replace q_u0 := x_u.c0; replace q_u1 := x_u.c1; replace f_u0 := x_u.fr 0; replace f_u1 := x_u.fr 1; replace q_v0 := x_v.c0; replace q_v1 := x_v.c1; replace f_v0 := x_v.fr 0; replace f_v1 := x_v.fr 1; replace q_x0 := x_x.c0; replace q_x1 := x_x.c1; replace f_x0 := x_x.fr 0; replace f_x1 := x_x.fr 1; replace q_y0 := x_y.c0; replace q_y1 := x_y.c1; replace f_y0 := x_y.fr 0; replace f_y1 := x_y.fr 1) | (go_at_call 14; (fail_if_success (have gx := g3)); (with_reducible refine (Zcut_at pb 3 3 rfl (by omega)).mono ?_); rintro e v32 ⟨Ah, nh, ch, rfl, g2, k2, hb1⟩; replace x_a := x_a.keep hb1; replace x_b := x_b.keep hb1; replace x_q := x_q.keep hb1; replace x_r := x_r.keep hb1; replace x_s := x_s.keep hb1; replace x_t := x_t.keep hb1; replace x_u := x_u.keep hb1; replace x_v := x_v.keep hb1; replace x_x := x_x.keep hb1; replace x_y := x_y.keep hb1; replace pa := pa.go hb1; replace za := za.keep hb1; replace pb := pb.go hb1; replace zb := zb.keep hb1; replace z_q := z_q.keep hb1; replace z_r := z_r.keep hb1; replace z_s := z_s.keep hb1; replace z_t := z_t.keep hb1; replace z_u := z_u.keep hb1; replace z_v := z_v.keep hb1; replace z_x := z_x.keep hb1; replace z_y := z_y.keep hb1; replace g1 := g1.go hb1; replace hb := bthen hb hb1; clear hb1; replace q_a0 := x_a.c0; replace q_a1 := x_a.c1; replace f_a0 := x_a.fr 0; replace f_a1 := x_a.fr 1; replace q_b0 := x_b.c0; replace q_b1 := x_b.c1; replace f_b0 := x_b.fr 0; replace f_b1 := x_b.fr 1; replace q_q0 := x_q.c0; replace q_q1 := x_q.c1; replace f_q0 := x_q.fr 0; replace f_q1 := x_q.fr 1; replace q_r0 := x_r.c0; replace q_r1 := x_r.c1; replace f_r0 := x_r.fr 0; replace f_r1 := x_r.fr 1; replace q_s0 := x_s.c0; replace q_s1 := x_s.c1; replace f_s0 := x_s.fr 0; replace f_s1 := x_s.fr 1; replace q_t0 := x_t.c0; replace q_t1 := x_t.c1; replace f_t0 := x_t.fr 0; replace f_t1 := x_t.fr 1; replace q_u0 := x_u.c0; replace q_u1 := x_u.c1; replace f_u0 := x_u.fr 0; replace f_u1 := x_u.fr 1; replace q_v0 := x_v.c0; replace q_v1 := x_v.c1; replace f_v0 := x_v.fr 0; replace f_v1 := x_v.fr 1; replace q_x0 := x_x.c0; replace q_x1 := x_x.c1; replace f_x0 := x_x.fr 0; replace f_x1 := x_x.fr 1; replace q_y0 := x_y.c0; replace q_y1 := x_y.c1; replace f_y0 := x_y.fr 0; replace f_y1 := x_y.fr 1) | (go_at_call 47; (with_reducible refine (ZGcd_any (Zr.of g1 k1) (Zr.of g2 k2) 3 (by omega) (by omega) (by omega)).mono ?_); rintro e v33 ⟨Ai, ni, ci, rfl, s1, hb1⟩; replace x_a := x_a.keep hb1; replace x_b := x_b.keep hb1; replace x_q := x_q.keep hb1; replace x_r := x_r.keep hb1; replace x_s := x_s.keep hb1; replace x_t := x_t.keep hb1; replace x_u := x_u.keep hb1; replace x_v := x_v.keep hb1; replace x_x := x_x.keep hb1; replace x_y := x_y.keep hb1; replace pa := pa.go hb1; replace za := za.keep hb1; replace pb := pb.go hb1; replace zb := zb.keep hb1; replace z_q := z_q.keep hb1; replace z_r := z_r.keep hb1; replace z_s := z_s.keep hb1; replace z_t := z_t.keep hb1; replace z_u := z_u.keep hb1; replace z_v := z_v.keep hb1; replace z_x := z_x.keep hb1; replace z_y := z_y.keep hb1; replace g1 := g1.go hb1; replace g2 := g2.go hb1; replace hb := bthen hb hb1; clear hb1; replace q_a0 := x_a.c0; replace q_a1 := x_a.c1; replace f_a0 := x_a.fr 0; replace f_a1 := x_a.fr 1; replace q_b0 := x_b.c0; replace q_b1 := x_b.c1; replace f_b0 := x_b.fr 0; replace f_b1 := x_b.fr 1; replace q_q0 := x_q.c0; replace q_q1 := x_q.c1; replace f_q0 := x_q.fr 0; replace f_q1 := x_q.fr 1; replace q_r0 := x_r.c0; replace q_r1 := x_r.c1; replace f_r0 := x_r.fr 0; replace f_r1 := x_r.fr 1; replace q_s0 := x_s.c0; replace q_s1 := x_s.c1; replace f_s0 := x_s.fr 0; replace f_s1 := x_s.fr 1; replace q_t0 := x_t.c0; replace q_t1 := x_t.c1; replace f_t0 := x_t.fr 0; replace f_t1 := x_t.fr 1; replace q_u0 := x_u.c0; replace q_u1 := x_u.c1; replace f_u0 := x_u.fr 0; replace f_u1 := x_u.fr 1; replace q_v0 := x_v.c0; replace q_v1 := x_v.c1; replace f_v0 := x_v.fr 0; replace f_v1 := x_v.fr 1; replace q_x0 := x_x.c0; replace q_x1 := x_x.c1; replace f_x0 := x_x.fr 0; replace f_x1 := x_x.fr 1; replace q_y0 := x_y.c0; replace q_y1 := x_y.c1; replace f_y0 := x_y.fr 0; replace f_y1 := x_y.fr 1) | (go_at_call 14; (with_reducible refine (Zcut_at pa 3 3 rfl (by omega)).mono ?_); rintro e v34 ⟨Aj, nj, cj, rfl, g3, k3, hb1⟩; replace x_a := x_a.keep hb1; replace x_b := x_b.keep hb1; replace x_q := x_q.keep hb1; replace x_r := x_r.keep hb1; replace x_s := x_s.keep hb1; replace x_t := x_t.keep hb1; replace x_u := x_u.keep hb1; replace x_v := x_v.keep hb1; replace x_x := x_x.keep hb1; replace x_y := x_y.keep hb1; replace pa := pa.go hb1; replace za := za.keep hb1; replace pb := pb.go hb1; replace zb := zb.keep hb1; replace z_q := z_q.keep hb1; replace z_r := z_r.keep hb1; replace z_s := z_s.keep hb1; replace z_t := z_t.keep hb1; replace z_u := z_u.keep hb1; replace z_v := z_v.keep hb1; replace z_x := z_x.keep hb1; replace z_y := z_y.keep hb1; replace g1 := g1.go hb1; replace g2 := g2.go hb1; replace s1 := s1.keep hb1; replace hb := bthen hb hb1; clear hb1; replace q_a0 := x_a.c0; replace q_a1 := x_a.c1; replace f_a0 := x_a.fr 0; replace f_a1 := x_a.fr 1; replace q_b0 := x_b.c0; replace q_b1 := x_b.c1; replace f_b0 := x_b.fr 0; replace f_b1 := x_b.fr 1; replace q_q0 := x_q.c0; replace q_q1 := x_q.c1; replace f_q0 := x_q.fr 0; replace f_q1 := x_q.fr 1; replace q_r0 := x_r.c0; replace q_r1 := x_r.c1; replace f_r0 := x_r.fr 0; replace f_r1 := x_r.fr 1; replace q_s0 := x_s.c0; replace q_s1 := x_s.c1; replace f_s0 := x_s.fr 0; replace f_s1 := x_s.fr 1; replace q_t0 := x_t.c0; replace q_t1 := x_t.c1; replace f_t0 := x_t.fr 0; replace f_t1 := x_t.fr 1; replace q_u0 := x_u.c0; replace q_u1 := x_u.c1; replace f_u0 := x_u.fr 0; replace f_u1 := x_u.fr 1; replace q_v0 := x_v.c0; replace q_v1 := x_v.c1; replace f_v0 := x_v.fr 0; replace f_v1 := x_v.fr 1; replace q_x0 := x_x.c0; replace q_x1 := x_x.c1; replace f_x0 := x_x.fr 0; replace f_x1 := x_x.fr 1; replace q_y0 := x_y.c0; replace q_y1 := x_y.c1; replace f_y0 := x_y.fr 0; replace f_y1 := x_y.fr 1) | (go_at_call 14; (with_reducible refine (Zcut_at pb 3 3 rfl (by omega)).mono ?_); rintro e v35 ⟨Ak, nk, ck, rfl, g4, k4, hb1⟩; replace x_a := x_a.keep hb1; replace x_b := x_b.keep hb1; replace x_q := x_q.keep hb1; replace x_r := x_r.keep hb1; replace x_s := x_s.keep hb1; replace x_t := x_t.keep hb1; replace x_u := x_u.keep hb1; replace x_v := x_v.keep hb1; replace x_x := x_x.keep hb1; replace x_y := x_y.keep hb1; replace pa := pa.go hb1; replace za := za.keep hb1; replace pb := pb.go hb1; replace zb := zb.keep hb1; replace z_q := z_q.keep hb1; replace z_r := z_r.keep hb1; replace z_s := z_s.keep hb1; replace z_t := z_t.keep hb1; replace z_u := z_u.keep hb1; replace z_v := z_v.keep hb1; replace z_x := z_x.keep hb1; replace z_y := z_y.keep hb1; replace g1 := g1.go hb1; replace g2 := g2.go hb1; replace s1 := s1.keep hb1; replace g3 := g3.go hb1; replace hb := bthen hb hb1; clear hb1; replace q_a0 := x_a.c0; replace q_a1 := x_a.c1; replace f_a0 := x_a.fr 0; replace f_a1 := x_a.fr 1; replace q_b0 := x_b.c0; replace q_b1 := x_b.c1; replace f_b0 := x_b.fr 0; replace f_b1 := x_b.fr 1; replace q_q0 := x_q.c0; replace q_q1 := x_q.c1; replace f_q0 := x_q.fr 0; replace f_q1 := x_q.fr 1; replace q_r0 := x_r.c0; replace q_r1 := x_r.c1; replace f_r0 := x_r.fr 0; replace f_r1 := x_r.fr 1; replace q_s0 := x_s.c0; replace q_s1 := x_s.c1; replace f_s0 := x_s.fr 0; replace f_s1 := x_s.fr 1; replace q_t0 := x_t.c0; replace q_t1 := x_t.c1; replace f_t0 := x_t.fr 0; replace f_t1 := x_t.fr 1; replace q_u0 := x_u.c0; replace q_u1 := x_u.c1; replace f_u0 := x_u.fr 0; replace f_u1 := x_u.fr 1; replace q_v0 := x_v.c0; replace q_v1 := x_v.c1; replace f_v0 := x_v.fr 0; replace f_v1 := x_v.fr 1; replace q_x0 := x_x.c0; replace q_x1 := x_x.c1; replace f_x0 := x_x.fr 0; replace f_x1 := x_x.fr 1; replace q_y0 := x_y.c0; replace q_y1 := x_y.c1; replace f_y0 := x_y.fr 0; replace f_y1 := x_y.fr 1) | (go_at_call 48; (with_reducible refine (RGcdZ_any (Zr.of g3 k3) (Zr.of g4 k4) 3 (by omega) (by omega) (by omega)).mono ?_); rintro e v36 ⟨Al, nl, cl, rfl, s2, hb1⟩; replace x_a := x_a.keep hb1; replace x_b := x_b.keep hb1; replace x_q := x_q.keep hb1; replace x_r := x_r.keep hb1; replace x_s := x_s.keep hb1; replace x_t := x_t.keep hb1; replace x_u := x_u.keep hb1; replace x_v := x_v.keep hb1; replace x_x := x_x.keep hb1; replace x_y := x_y.keep hb1; replace pa := pa.go hb1; replace za := za.keep hb1; replace pb := pb.go hb1; replace zb := zb.keep hb1; replace z_q := z_q.keep hb1; replace z_r := z_r.keep hb1; replace z_s := z_s.keep hb1; replace z_t := z_t.keep hb1; replace z_u := z_u.keep hb1; replace z_v := z_v.keep hb1; replace z_x := z_x.keep hb1; replace z_y := z_y.keep hb1; replace g1 := g1.go hb1; replace g2 := g2.go hb1; replace s1 := s1.keep hb1; replace g3 := g3.go hb1; replace g4 := g4.go hb1; replace hb := bthen hb hb1; clear hb1; replace q_a0 := x_a.c0; replace q_a1 := x_a.c1; replace f_a0 := x_a.fr 0; replace f_a1 := x_a.fr 1; replace q_b0 := x_b.c0; replace q_b1 := x_b.c1; replace f_b0 := x_b.fr 0; replace f_b1 := x_b.fr 1; replace q_q0 := x_q.c0; replace q_q1 := x_q.c1; replace f_q0 := x_q.fr 0; replace f_q1 := x_q.fr 1; replace q_r0 := x_r.c0; replace q_r1 := x_r.c1; replace f_r0 := x_r.fr 0; replace f_r1 := x_r.fr 1; replace q_s0 := x_s.c0; replace q_s1 := x_s.c1; replace f_s0 := x_s.fr 0; replace f_s1 := x_s.fr 1; replace q_t0 := x_t.c0; replace q_t1 := x_t.c1; replace f_t0 := x_t.fr 0; replace f_t1 := x_t.fr 1; replace q_u0 := x_u.c0; replace q_u1 := x_u.c1; replace f_u0 := x_u.fr 0; replace f_u1 := x_u.fr 1; replace q_v0 := x_v.c0; replace q_v1 := x_v.c1; replace f_v0 := x_v.fr 0; replace f_v1 := x_v.fr 1; replace q_x0 := x_x.c0; replace q_x1 := x_x.c1; replace f_x0 := x_x.fr 0; replace f_x1 := x_x.fr 1; replace q_y0 := x_y.c0; replace q_y1 := x_y.c1; replace f_y0 := x_y.fr 0; replace f_y1 := x_y.fr 1) | (go_at_call 16; (with_reducible refine (Zequal_any s1 s2 rfl).mono ?_); rintro e v37 ⟨rfl, hb1⟩; replace x_a := x_a.keep hb1; replace x_b := x_b.keep hb1; replace x_q := x_q.keep hb1; replace x_r := x_r.keep hb1; replace x_s := x_s.keep hb1; replace x_t := x_t.keep hb1; replace x_u := x_u.keep hb1; replace x_v := x_v.keep hb1; replace x_x := x_x.keep hb1; replace x_y := x_y.keep hb1; replace pa := pa.go hb1; replace za := za.keep hb1; replace pb := pb.go hb1; replace zb := zb.keep hb1; replace z_q := z_q.keep hb1; replace z_r := z_r.keep hb1; replace z_s := z_s.keep hb1; replace z_t := z_t.keep hb1; replace z_u := z_u.keep hb1; replace z_v := z_v.keep hb1; replace z_x := z_x.keep hb1; replace z_y := z_y.keep hb1; replace g1 := g1.go hb1; replace g2 := g2.go hb1; replace s1 := s1.keep hb1; replace g3 := g3.go hb1; replace g4 := g4.go hb1; replace s2 := s2.keep hb1; replace hb := bthen hb hb1; clear hb1; replace q_a0 := x_a.c0; replace q_a1 := x_a.c1; replace f_a0 := x_a.fr 0; replace f_a1 := x_a.fr 1; replace q_b0 := x_b.c0; replace q_b1 := x_b.c1; replace f_b0 := x_b.fr 0; replace f_b1 := x_b.fr 1; replace q_q0 := x_q.c0; replace q_q1 := x_q.c1; replace f_q0 := x_q.fr 0; replace f_q1 := x_q.fr 1; replace q_r0 := x_r.c0; replace q_r1 := x_r.c1; replace f_r0 := x_r.fr 0; replace f_r1 := x_r.fr 1; replace q_s0 := x_s.c0; replace q_s1 := x_s.c1; replace f_s0 := x_s.fr 0; replace f_s1 := x_s.fr 1; replace q_t0 := x_t.c0; replace q_t1 := x_t.c1; replace f_t0 := x_t.fr 0; replace f_t1 := x_t.fr 1; replace q_u0 := x_u.c0; replace q_u1 := x_u.c1; replace f_u0 := x_u.fr 0; replace f_u1 := x_u.fr 1; replace q_v0 := x_v.c0; replace q_v1 := x_v.c1; replace f_v0 := x_v.fr 0; replace f_v1 := x_v.fr 1; replace q_x0 := x_x.c0; replace q_x1 := x_x.c1; replace f_x0 := x_x.fr 0; replace f_x1 := x_x.fr 1; replace q_y0 := x_y.c0; replace q_y1 := x_y.c1; replace f_y0 := x_y.fr 0; replace f_y1 := x_y.fr 1))
    go_wp2
    go_ret
    exact ⟨rfl, hb⟩
end
end Go.Proofs.Ythnffjgbglncbaa
namespace Go.Proofs.Ythnffjgbglncbaa
section
open Go.ChangeShapes Go.WideShapes Go.ChangeAt Go.RowKit
set_option linter.unusedVariables false

theorem Try.own : ownKnob Try.prog.godebug = none := by kernel_rfl
theorem Try.laidOut : laidOutB Try.prog = true := by kernel_rfl
theorem Try.cells64 : Try.prog.cellsOf 29 = 1 := by kernel_rfl
theorem Try.bytes64 : Try.prog.bytesOf 29 = 8 := by kernel_rfl

theorem wf_lm {n : Int} (h : (Lit.int .u64 n).wf = true) : 0 ≤ n ∧ n < (Wd : Int) := by
  simp only [Lit.wf, Bool.and_eq_true, decide_eq_true_eq] at h
  have h1 : IntKind.u64.min = 0 := rfl
  have h2 : IntKind.u64.max = 18446744073709551615 := rfl
  rw [Wd_eq]; omega
theorem bounds_int {n : Int} (h : (Lit.int .i64 n).wf = true) : -9223372036854775808 ≤ n ∧ n ≤ 9223372036854775807 := by
  simp only [Lit.wf, Bool.and_eq_true, decide_eq_true_eq] at h
  have h1 : IntKind.i64.min = -9223372036854775808 := rfl
  have h2 : IntKind.i64.max = 9223372036854775807 := rfl
  omega

/-- A slice of limbs that came in. -/
theorem open_rd {H : Type} {enc : TypeId × Value → H} {W : World} {base : Nat} {v : Value} {d : DataW H} {ps : List MemPlace} (hok : Value.okWide Try.prog W .any base 22 v)
    (h : DataW.Trod enc Try.prog W 0 (fun _ => true) true 22 v d ps) (hlt : ∀ x ∈ ps, x.block < W.heap.size)
    (hsz : ∀ elems spare, d = .slice elems spare → (elems.length + spare.length) * Try.prog.bytesOf 29 ≤ reachBytes) : ∃ A n c l, v = .slice A n c ∧ Rd W W.heap.size A n c l := by
  obtain ⟨a0, len, cap, rfl⟩ := okWide_slice Try.underlying22 hok
  obtain ⟨fuel, hf⟩ := h
  rcases open_ints Try.underlying22 Try.underlying29 Try.cells64 hf with ⟨hcs, hx⟩ | ⟨a, len', cap', zs, hcs, _, hl, hm, hz, hx, hcell, hwz⟩
  · simp [Value.cells] at hcs
    obtain ⟨rfl, rfl, rfl⟩ := hcs
    exact ⟨_, _, _, [], rfl, Rd.nil⟩
  · simp [Value.cells] at hcs
    obtain ⟨rfl, rfl, rfl⟩ := hcs
    simp only [Prod.mk.injEq] at hx
    obtain ⟨rfl, rfl⟩ := hx
    simp only [if_true] at hz
    have hreach := hsz _ _ rfl
    rw [Try.bytes64] at hreach
    simp only [lits, List.length_map, List.length_take, List.length_drop, reachBytes] at hreach
    have hzl : (zs.take len).length = len := by simp; omega
    refine ⟨_, _, _, zs.take len, rfl, hzl, hl, by omega, fun x hx => wf_lm (hwz x (List.mem_of_mem_take hx)), fun hn => ?_⟩
    obtain ⟨b, off, spot⟩ := a
    have hspot : spot = none := by simpa [Addr.add] using World.cell?_spot (hcell 0 (by omega))
    subst hspot
    have hbW : b < W.heap.size := hlt (.cell b off) (MemPlace.mem_row.2 ⟨0, by omega, by simp⟩)
    refine ⟨b, off, rfl, hbW, fun k hk => ?_⟩
    have hk2 : k < zs.length := by omega
    rw [← add_plain, hcell k hk2, List.getElem_take]
    simp [List.getD, List.getElem?_eq_getElem hk2]
end
end Go.Proofs.Ythnffjgbglncbaa
namespace Go.Proofs.Ythnffjgbglncbaa
section
open Go.Joins Go.ChangeShapes Go.WideShapes Go.ChangeAt Go.RowKit
set_option linter.unusedVariables false

theorem Try.cellsInt : Try.prog.cellsOf 24 = 2 := by kernel_rfl

theorem sized_mag {H : Type} {ts : List TypeId} {ds : List (DataW H)} (h : (DataW.weightsEach Try.prog ts ds).all (· ≤ reachBytes) = true) {j : Nat} {d0 : DataW H} {elems spare : List (DataW H)} (ht : ts[j]? = some 24) (hd : ds[j]? = some (.agg [d0, .slice elems spare])) :
    (elems.length + spare.length) * Try.prog.bytesOf 29 ≤ reachBytes := by
  have := List.all_eq_true.1 h _ (DataW.weights_mem_each ht hd ((elems.length + spare.length) * Try.prog.bytesOf 29) (by simp [DataW.weights, DataW.weightsEach, Try.underlying24, Try.underlying22]))
  simpa using this

/-- An integer that came in. -/
theorem open_z {H : Type} {enc : TypeId × Value → H} {W : World} {base : Nat} {v : Value} {d : DataW H} {ps : List MemPlace} (hok : Value.okWide Try.prog W .any base 24 v)
    (h : DataW.Trod enc Try.prog W 0 (fun _ => true) true 24 v d ps) (hlt : ∀ x ∈ ps, x.block < W.heap.size)
    (hsz : ∀ d0 elems spare, d = .agg [d0, .slice elems spare] → (elems.length + spare.length) * Try.prog.bytesOf 29 ≤ reachBytes) : ∃ b A n c l, v = .agg #[.bool b, .slice A n c] ∧ Rd W W.heap.size A n c l := by
  obtain ⟨v0, v1, y0, y1, m, rfl, rfl, rfl, t0, t1⟩ := open_agg2 Try.underlying24 (by kernel_rfl) Try.cellsInt hok h
  obtain ⟨b, hb0, _⟩ := DataW.trod_bool Try.underlying4 t0
  injection hb0 with hb0 _
  subst hb0
  rcases open_ints Try.underlying22 Try.underlying29 Try.cells64 t1 with ⟨hcs, hx⟩ | ⟨a, len', cap', zs, hcs, _, hl, hm, hz, hx, hcell, hwz⟩
  · injection hcs with hcs _
    subst hcs
    exact ⟨b, _, _, _, [], rfl, Rd.nil⟩
  · injection hcs with hcs _
    subst hcs
    subst hx
    simp only [if_true] at hz
    have hreach := hsz _ _ _ rfl
    rw [Try.bytes64] at hreach
    simp only [lits, List.length_map, List.length_take, List.length_drop, reachBytes] at hreach
    have hzl : (zs.take len').length = len' := by simp; omega
    refine ⟨b, _, _, _, zs.take len', rfl, hzl, hl, by omega, fun x hx => wf_lm (hwz x (List.mem_of_mem_take hx)), fun hn => ?_⟩
    obtain ⟨b1, off, spot⟩ := a
    have hspot : spot = none := by simpa [Addr.add] using World.cell?_spot (hcell 0 (by omega))
    subst hspot
    have hbW : b1 < W.heap.size := hlt (.cell b1 off) (by rw [List.mem_append]; exact .inr (MemPlace.mem_row.2 ⟨0, by omega, by simp⟩))
    refine ⟨b1, off, rfl, hbW, fun k hk => ?_⟩
    have hk2 : k < zs.length := by omega
    rw [← add_plain, hcell k hk2, List.getElem_take]
    simp [List.getD, List.getElem?_eq_getElem hk2]
end
end Go.Proofs.Ythnffjgbglncbaa
namespace Go.Proofs.Ythnffjgbglncbaa
section
open Go.Joins Go.ChangeShapes Go.WideShapes Go.ChangeAt Go.RowKit
set_option linter.unusedVariables false

set_option maxRecDepth 100000 in
theorem ZedDivides_lifted (os : Go.Os) (started : os.Started) (H : Type) (enc : TypeId × Value → H) :
    ReturnsInHanded {} Try.checked os 6 .any (Rows.zedDividesSpec.pre6 enc Try.prog Try.f6 Rows.zedDividesRow.domain false) (Rows.zedDividesSpec.post enc Try.prog Try.f6 false true false false) := by
  refine returnsInHanded_of_change_sized (C := Try.checked) Try.own started (by kernel_rfl) Try.func6
    (ChangeSpec.witness6 (enc := enc) (C := Try.checked) false ⟨#[], #[.agg #[.bool false, .slice none 0 0], .agg #[.bool false, .slice none 0 0]], []⟩ 8 (by kernel_rfl) (by kernel_rfl) (by kernel_rfl) (by kernel_rfl)) ?_
  intro W base args ds gs before hval0 hW _ hsz0 _
  have hsz : (DataW.weightsEach Try.prog (Try.f6.params.toList ++ Rows.zedDividesSpec.plain.varTypes Try.prog) (ds ++ gs)).all (· ≤ reachBytes) = true := hsz0
  clear hsz0
  have hval : ∀ (j : Nat) t v, Try.f6.params[j]? = some t → args[j]? = some v → Value.okWide Try.prog W .any base t v := hval0
  have hW' := hW
  obtain ⟨p, q, hA0, hV, rfl, _, _⟩ := hW
  have hA : DataW.TrodAll enc Try.prog W 0 (fun _ => true) true Try.f6.params.toList args.toList ds p := hA0
  rw [Try.params6] at hA hval hsz
  obtain ⟨v0, vs0, d0, ds0, p0, q0, hargs, rfl, rfl, h0, r0⟩ := trodAll_cons hA
  obtain ⟨v1, vs1, d1, ds1, p1, q1, rfl, rfl, rfl, h1, r1⟩ := trodAll_cons r0
  obtain ⟨rfl, rfl, rfl⟩ := trodAll_nil r1
  obtain rfl : args = #[v0, v1] := by cases args; simp_all
  obtain ⟨rfl, rfl⟩ := trodVars_none hV
  clear hA0 hval0 hA
  simp only [List.append_nil] at hW'
  have hlt0 : ∀ x ∈ p0, x.block < W.heap.size := fun x hx => by simpa using hW'.lt x (by simp [hx])
  have hlt1 : ∀ x ∈ p1, x.block < W.heap.size := fun x hx => by simpa using hW'.lt x (by simp [hx])
  have hback0 : ∀ W' : World, Below W.heap.size W W' → DataW.Trod enc Try.prog W' 0 (fun b => decide (b < W.heap.size)) true 24 v0 d0 p0 :=
    fun W' hn => Below.trod Try.laidOut (by kernel_rfl) (of_decide_eq_true (by kernel_rfl)) h0 hn hlt0
  obtain ⟨b0, A0, n0, c0, l0, rfl, g0⟩ := open_z (hval 0 24 v0 rfl rfl) h0 hlt0 (fun dd elems spare hd => sized_mag hsz (j := 0) (d0 := dd) rfl (by simp [hd]))
  have hback1 : ∀ W' : World, Below W.heap.size W W' → DataW.Trod enc Try.prog W' 0 (fun b => decide (b < W.heap.size)) true 24 v1 d1 p1 :=
    fun W' hn => Below.trod Try.laidOut (by kernel_rfl) (of_decide_eq_true (by kernel_rfl)) h1 hn hlt1
  obtain ⟨b1, A1, n1, c1, l1, rfl, g1⟩ := open_z (hval 1 24 v1 rfl rfl) h1 hlt1 (fun dd elems spare hd => sized_mag hsz (j := 1) (d0 := dd) rfl (by simp [hd]))
  refine (ZedDivides_any g0 g1).mono fun e W' ⟨he, hb⟩ => ?_
  subst he
  exact ⟨_, rfl, _, _, _, [], _, [], hW', trodAll_mk1 (shut_bool Try.underlying4 _), (trodAll_cons_mk (hback0 _ hb) (trodAll_cons_mk (hback1 _ hb) trodAll_mk0)), rfl, hb.frame _, fun h => by cases h⟩

theorem ZedDivides_holds : Rows.ZedDividesSaid :=
  OpenClaim.holds_of_wide 6 Try.f6 rfl rfl rfl rfl rfl rfl rfl ⟨rfl, rfl, rfl, rfl, rfl⟩ rfl rfl rfl rfl rfl (by kernel_rfl) Try.func6 (by kernel_rfl)
    (of_decide_eq_true (by kernel_rfl)) (by unfold Func.isWrapper; first | (rw [if_pos (by decide +kernel)]; kernel_rfl) | (rw [if_neg (by decide +kernel)]; exact ⟨rfl, rfl⟩))
    (fun os started H enc _ => ZedDivides_lifted os started H enc)
end
end Go.Proofs.Ythnffjgbglncbaa
