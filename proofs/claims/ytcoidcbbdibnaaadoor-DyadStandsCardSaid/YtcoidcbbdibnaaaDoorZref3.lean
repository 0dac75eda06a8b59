/-
  The document's answer for zed: Sign, Cmp, Same, BitLen, Shl, Shr.
-/
import Derived.Test.YtcoidcbbdibnaaaDoorZref2
import Derived.Test.YtcoidcbbdibnaaaDoorRshr
namespace Go.Proofs.YtcoidcbbdibnaaaDoor
open Go.RowKit
set_option linter.unusedVariables false

theorem sgnI_m {X : Int} (h : X < 0) : sgnI X = -1 := by unfold sgnI; rw [if_pos h]
theorem sgnI_z {X : Int} (h : X = 0) : sgnI X = 0 := by unfold sgnI; rw [if_neg (by omega), if_pos h]
theorem sgnI_p {X : Int} (h : 0 < X) : sgnI X = 1 := by unfold sgnI; rw [if_neg (by omega), if_neg (by omega)]
theorem ngB_pos {X : Int} (h : 0 < X) : ngB X = false := by unfold ngB; simp; omega
theorem ngB_neg {X : Int} (h : X < 0) : ngB X = true := by unfold ngB; simpa using h
theorem zn_len {w : World} {A : Option Addr} {n c k : Nat} {X : Int} (h : Zn w A n c X k) : (X = 0 → n = 0) ∧ (X ≠ 0 → 0 < n) :=
  ⟨fun h0 => rd_zero h.1 (by omega), fun h0 => rd_pos h.1 (by omega)⟩

set_option maxRecDepth 100000 in
set_option maxHeartbeats 2000000 in
theorem RSignZ_any {b : Bool} {A : Option Addr} {n c : Nat} {X : Int} {j : Nat} {w : World} (h : Zr w b A n c X j) (hj : j ≤ 100000) :
    Calls Tryd.prog 50 #[.agg #[.bool b, .slice A n c]] w fun e w' => e = .returned (.int .i64 (sgnI X)) ∧ Below w.heap.size w w' := by
  rcases Int.lt_trichotomy X 0 with h0 | h0 | h0
  · have hv := sgnI_m h0
    have HV := Lib.hid hv; clear hv
    have hnb : ngB X = true := ngB_neg h0
    have HNB := Lib.hid hnb; clear hnb
    go_enter Tryd.func50, Tryd.ntmps50
    go_wp2_with fail
    obtain ⟨hb, x_a⟩ := box1 w b A n c
    generalize w.alloc (.cells #[.bool b, .slice A n c] 24) = v1 at *
    replace h := h.keep hb
    have q_a0 := x_a.c0; have q_a1 := x_a.c1; have f_a0 := x_a.fr 0; have f_a1 := x_a.fr 1
    go_wp2_with fail
    with_reducible refine (RNormZ_any h j (Nat.le_refl _) (by omega)).mono ?_
    rintro e v2 ⟨A1, n1, c1, rfl, z1, hb1⟩
    replace x_a := x_a.keep hb1
    replace h := h.keep hb1
    replace hb := bthen hb hb1
    clear hb1
    replace q_a0 := x_a.c0; replace q_a1 := x_a.c1; replace f_a0 := x_a.fr 0; replace f_a1 := x_a.fr 1
    have hl := zn_len z1
    rw [HNB.out]
    have hp := hl.2 (by omega)
    have hp0 : ((n1 : Int) == 0) = false := by simp; omega
    clear hl h0
    go_wp2
    go_ret
    exact ⟨ret_i64 HV.out.symm, put_below hb (by omega) _ _⟩
  · have hv := sgnI_z h0
    have HV := Lib.hid hv; clear hv
    have hnb : ngB X = false := by subst h0; rfl
    have HNB := Lib.hid hnb; clear hnb
    go_enter Tryd.func50, Tryd.ntmps50
    go_wp2_with fail
    obtain ⟨hb, x_a⟩ := box1 w b A n c
    generalize w.alloc (.cells #[.bool b, .slice A n c] 24) = v1 at *
    replace h := h.keep hb
    have q_a0 := x_a.c0; have q_a1 := x_a.c1; have f_a0 := x_a.fr 0; have f_a1 := x_a.fr 1
    go_wp2_with fail
    with_reducible refine (RNormZ_any h j (Nat.le_refl _) (by omega)).mono ?_
    rintro e v2 ⟨A1, n1, c1, rfl, z1, hb1⟩
    replace x_a := x_a.keep hb1
    replace h := h.keep hb1
    replace hb := bthen hb hb1
    clear hb1
    replace q_a0 := x_a.c0; replace q_a1 := x_a.c1; replace f_a0 := x_a.fr 0; replace f_a1 := x_a.fr 1
    have hl := zn_len z1
    rw [HNB.out]
    obtain rfl := hl.1 h0
    clear hl h0
    go_wp2
    go_ret
    exact ⟨ret_i64 HV.out.symm, put_below hb (by omega) _ _⟩
  · have hv := sgnI_p h0
    have HV := Lib.hid hv; clear hv
    have hnb : ngB X = false := ngB_pos h0
    have HNB := Lib.hid hnb; clear hnb
    go_enter Tryd.func50, Tryd.ntmps50
    go_wp2_with fail
    obtain ⟨hb, x_a⟩ := box1 w b A n c
    generalize w.alloc (.cells #[.bool b, .slice A n c] 24) = v1 at *
    replace h := h.keep hb
    have q_a0 := x_a.c0; have q_a1 := x_a.c1; have f_a0 := x_a.fr 0; have f_a1 := x_a.fr 1
    go_wp2_with fail
    with_reducible refine (RNormZ_any h j (Nat.le_refl _) (by omega)).mono ?_
    rintro e v2 ⟨A1, n1, c1, rfl, z1, hb1⟩
    replace x_a := x_a.keep hb1
    replace h := h.keep hb1
    replace hb := bthen hb hb1
    clear hb1
    replace q_a0 := x_a.c0; replace q_a1 := x_a.c1; replace f_a0 := x_a.fr 0; replace f_a1 := x_a.fr 1
    have hl := zn_len z1
    rw [HNB.out]
    have hp := hl.2 (by omega)
    have hp0 : ((n1 : Int) == 0) = false := by simp; omega
    clear hl h0
    go_wp2
    go_ret
    exact ⟨ret_i64 HV.out.symm, put_below hb (by omega) _ _⟩

set_option maxRecDepth 100000 in
set_option maxHeartbeats 1000000 in
theorem RBitLenZ_any {b : Bool} {A : Option Addr} {n c : Nat} {X : Int} {j : Nat} {w : World} (h : Zr w b A n c X j) (hj : j ≤ 100000) :
    Calls Tryd.prog 49 #[.agg #[.bool b, .slice A n c]] w fun e w' => e = .returned (.int .i64 (bl X.natAbs)) ∧ Below w.heap.size w w' := by
  obtain ⟨l, h, rfl, hn⟩ := h
  rw [zi_abs]
  go_enter Tryd.func49, Tryd.ntmps49
  go_wp2_with fail
  obtain ⟨hb, x_a⟩ := box1 w b A n c
  generalize w.alloc (.cells #[.bool b, .slice A n c] 24) = v1 at *
  replace h := h.go hb
  have q_a0 := x_a.c0; have q_a1 := x_a.c1; have f_a0 := x_a.fr 0; have f_a1 := x_a.fr 1
  go_wp2_with fail
  with_reducible refine (RBitLen_any _ _ _ _ _ h (by omega)).mono ?_
  rintro e v2 ⟨rfl, hb1⟩
  replace x_a := x_a.keep hb1
  replace h := h.go hb1
  replace hb := bthen hb hb1
  clear hb1
  replace q_a0 := x_a.c0; replace q_a1 := x_a.c1; replace f_a0 := x_a.fr 0; replace f_a1 := x_a.fr 1
  go_wp2
  go_ret
  exact ⟨rfl, hb⟩

set_option maxRecDepth 100000 in
set_option maxHeartbeats 2000000 in
theorem RShlZ_any {b : Bool} {A : Option Addr} {n c : Nat} {X : Int} {j : Nat} {w : World} (h : Zr w b A n c X j) (i : Int) (k : Nat) (hk : j + 128 ≤ k) (hj : k ≤ 100000) :
    Calls Tryd.prog 85 #[.agg #[.bool b, .slice A n c], .int .i64 i] w (OutZ w (X * 2 ^ sc i) k) := by
  obtain ⟨l, h, rfl, hn⟩ := h
  have hs := Sm.of h hn
  generalize hN : vl Wd l = N at *
  have HN := Lib.hid hN; clear hN
  rw [zi_shl]
  have hs3 : Sm (N * 2 ^ sc i) k := (hs.shl i).mono hk
  clear hs
  generalize hP9 : N * 2 ^ sc i = P at *
  have HP := Lib.hid hP9; clear hP9
  go_enter Tryd.func85, Tryd.ntmps85
  go_wp2_with fail
  obtain ⟨hb, x_a, x_r⟩ := box2 w b A n c false none 0 0
  generalize (w.alloc (.cells #[.bool b, .slice A n c] 24)).alloc (.cells #[.bool false, .slice none 0 0] 24) = v1 at *
  replace h := h.go hb
  have q_a0 := x_a.c0; have q_a1 := x_a.c1; have f_a0 := x_a.fr 0; have f_a1 := x_a.fr 1
  have q_r0 := x_r.c0; have q_r1 := x_r.c1; have f_r0 := x_r.fr 0; have f_r1 := x_r.fr 1
  go_wp2_with fail
  go_region_held3 (fun w' => w'.cell? ⟨w.heap.size, 0, none⟩ = some (.bool b) ∧ w'.cell? ⟨w.heap.size, 1, none⟩ = some (.slice A n c))
    (first | (with_reducible exact ⟨x_a.c0, x_a.c1⟩) | (with_reducible exact ⟨(x_a.aside (by omega)).c0, (x_a.aside (by omega)).c1⟩) | (with_reducible exact ⟨((x_a.aside (by omega)).aside (by omega)).c0, ((x_a.aside (by omega)).aside (by omega)).c1⟩) | go_keep)
    (first | (go_at_call 103; (with_reducible refine (RShl_any _ _ _ _ i _ h.drw (by omega)).mono ?_); rintro e v2 ⟨A1, n1, c1, rfl, g1, hb1⟩; replace hb1 := undrew hb1; replace x_a := x_a.keep hb1; replace x_r := x_r.keep hb1; replace h := h.go hb1; replace hb := bthen hb hb1; clear hb1; replace q_a0 := x_a.c0; replace q_a1 := x_a.c1; replace f_a0 := x_a.fr 0; replace f_a1 := x_a.fr 1; replace q_r0 := x_r.c0; replace q_r1 := x_r.c1; replace f_r0 := x_r.fr 0; replace f_r1 := x_r.fr 1; rw [HN.out, HP.out] at g1; have zn1 := g1.small hs3) | (go_at_call 82; (with_reducible refine (RMake_any (b := b) g1 P k (vl_dg Wd2 _) hs3 (by omega)).mono ?_); rintro e v3 ⟨A2_, n2_, c2_, rfl, z1, hb1⟩; replace x_a := x_a.keep hb1; replace x_r := x_r.keep hb1; replace h := h.go hb1; replace g1 := g1.go hb1; replace hb := bthen hb hb1; clear hb1; replace q_a0 := x_a.c0; replace q_a1 := x_a.c1; replace f_a0 := x_a.fr 0; replace f_a1 := x_a.fr 1; replace q_r0 := x_r.c0; replace q_r1 := x_r.c1; replace f_r0 := x_r.fr 0; replace f_r1 := x_r.fr 1))
  go_wp2
  replace x_a := x_a.aside (b' := (ngB (zi b P))) (A' := A2_) (n' := n2_) (c' := c2_) (g := w.heap.size + 1) (by omega)
  replace h := h.sput (b' := (ngB (zi b P))) (A' := A2_) (n' := n2_) (c' := c2_) x_r
  replace g1 := g1.sput (b' := (ngB (zi b P))) (A' := A2_) (n' := n2_) (c' := c2_) x_r
  replace z1 := z1.put (b' := (ngB (zi b P))) (A' := A2_) (n' := n2_) (c' := c2_) x_r
  replace hb := put_below (g := w.heap.size + 1) hb (by omega) (.bool (ngB (zi b P))) (.slice A2_ n2_ c2_)
  replace x_r := x_r.put (ngB (zi b P)) A2_ n2_ c2_
  clear q_a0 q_a1 f_a0 f_a1 q_r0 q_r1 f_r0 f_r1
  generalize (v3.setCell ⟨w.heap.size + 1, 0, none⟩ (.bool (ngB (zi b P)))).setCell ⟨w.heap.size + 1, 1, none⟩ (.slice A2_ n2_ c2_) = v4 at *
  have q_a0 := x_a.c0; have q_a1 := x_a.c1; have f_a0 := x_a.fr 0; have f_a1 := x_a.fr 1
  have q_r0 := x_r.c0; have q_r1 := x_r.c1; have f_r0 := x_r.fr 0; have f_r1 := x_r.fr 1
  refine bodyPost_ret (v := .agg #[.bool (ngB (zi b P)), .slice A2_ n2_ c2_]) (by simp [results, Tryd.results85, go_sem, q_r0, q_r1]) rfl ?_
  exact ⟨_, _, _, rfl, z1, hb⟩

theorem shr_up {N s : Nat} (h : 0 < N) : (-(N : Int)) / 2 ^ s = zi true ((N + (1 * 2 ^ s - 1)) / 2 ^ s) := by
  rw [shr_neg h]
  congr 1
  have hp : 0 < 2 ^ s := Nat.two_pow_pos s
  generalize 2 ^ s = d at *
  rw [show N + (1 * d - 1) = (N - 1) + d by omega, Nat.add_div_right _ hp]
set_option maxRecDepth 100000 in
set_option maxHeartbeats 4000000 in
theorem RShrZ_any {b : Bool} {A : Option Addr} {n c : Nat} {X : Int} {j : Nat} {w : World} (h : Zr w b A n c X j) (i : Int) (k : Nat) (hk : j + 130 ≤ k) (hj : k ≤ 100000) :
    Calls Tryd.prog 81 #[.agg #[.bool b, .slice A n c], .int .i64 i] w (OutZ w (X / 2 ^ sc i) k) := by
  have hsi := h.si
  by_cases hX : X < 0
  · have hng := ngB_neg hX
    have hXe : X / 2 ^ sc i = zi true ((X.natAbs + (1 * 2 ^ sc i - 1)) / 2 ^ sc i) := by rw [← shr_up (by omega)]; congr 1; omega
    rw [hXe]
    have hsP : Sm (1 * 2 ^ sc i) (k - 1) := ((Sm.one (k := 1) (by omega)).shl i).mono (by omega)
    have hsM : Sm (1 * 2 ^ sc i - 1) (k - 1) := hsP.sub
    have hsN : Sm X.natAbs (k - 1) := hsi.mono (by omega)
    have hsS : Sm (X.natAbs + (1 * 2 ^ sc i - 1)) k := (hsN.add hsM).mono (by omega)
    have hsQ : Sm ((X.natAbs + (1 * 2 ^ sc i - 1)) / 2 ^ sc i) k := hsS.div _
    have hP1 : 1 ≤ 1 * 2 ^ sc i := by have := Nat.two_pow_pos (sc i); omega
    clear hXe hX hsN hsi
    generalize hN9 : X.natAbs = N at *
    have HNA := Lib.hid hN9; clear hN9
    generalize hQ9 : (N + (1 * 2 ^ sc i - 1)) / 2 ^ sc i = Q at *
    have HQ := Lib.hid hQ9; clear hQ9
    generalize hP9 : 1 * 2 ^ sc i = P at *
    have HP := Lib.hid hP9; clear hP9
    have HNG := Lib.hid hng; clear hng
    go_enter Tryd.func81, Tryd.ntmps81
    go_wp2_with fail
    obtain ⟨hb, x_a, x_r⟩ := box2 w b A n c false none 0 0
    generalize (w.alloc (.cells #[.bool b, .slice A n c] 24)).alloc (.cells #[.bool false, .slice none 0 0] 24) = v1 at *
    replace h := h.keep hb
    have q_a0 := x_a.c0; have q_a1 := x_a.c1; have f_a0 := x_a.fr 0; have f_a1 := x_a.fr 1
    have q_r0 := x_r.c0; have q_r1 := x_r.c1; have f_r0 := x_r.fr 0; have f_r1 := x_r.fr 1
    go_wp2_with fail
    with_reducible refine (RNormZ_any h j (Nat.le_refl _) (by omega)).mono ?_
    rintro e v2 ⟨A3, n3, c3, rfl, za, hb1⟩
    replace x_a := x_a.keep hb1
    replace x_r := x_r.keep hb1
    replace h := h.keep hb1
    replace hb := bthen hb hb1
    clear hb1
    replace q_a0 := x_a.c0; replace q_a1 := x_a.c1; replace f_a0 := x_a.fr 0; replace f_a1 := x_a.fr 1
    replace q_r0 := x_r.c0; replace q_r1 := x_r.c1; replace f_r0 := x_r.fr 0; replace f_r1 := x_r.fr 1
    rw [HNG.out]
    clear h
    go_wp2_with fail
    replace x_r := x_r.aside (b' := true) (A' := A3) (n' := n3) (c' := c3) (g := w.heap.size) (by omega)
    replace za := za.put (b' := true) (A' := A3) (n' := n3) (c' := c3) x_a
    replace hb := put_below (g := w.heap.size) hb (by omega) (.bool true) (.slice A3 n3 c3)
    replace x_a := x_a.put true A3 n3 c3
    clear q_a0 q_a1 f_a0 f_a1 q_r0 q_r1 f_r0 f_r1
    have hsz_v3 : ((v2.setCell ⟨w.heap.size, 0, none⟩ (.bool true)).setCell ⟨w.heap.size, 1, none⟩ (.slice A3 n3 c3)).heap.size = v2.heap.size := by simp [World.setCell]
    generalize (v2.setCell ⟨w.heap.size, 0, none⟩ (.bool true)).setCell ⟨w.heap.size, 1, none⟩ (.slice A3 n3 c3) = v3 at *
    have HSZ_v3 := Lib.hid hsz_v3; clear hsz_v3
    have q_a0 := x_a.c0; have q_a1 := x_a.c1; have f_a0 := x_a.fr 0; have f_a1 := x_a.fr 1
    have q_r0 := x_r.c0; have q_r1 := x_r.c1; have f_r0 := x_r.fr 0; have f_r1 := x_r.fr 1
    have ha := za.1; have hz1 := za.2
    rw [HNA.out] at ha
    clear za
    have hb1 := below_alloc v3 (.cells #[.int .u64 1] 31)
    replace x_a := x_a.keep hb1
    replace x_r := x_r.keep hb1
    replace ha := ha.go hb1
    replace hb := bthen hb hb1
    clear hb1
    replace q_a0 := x_a.c0; replace q_a1 := x_a.c1; replace f_a0 := x_a.fr 0; replace f_a1 := x_a.fr 1
    replace q_r0 := x_r.c0; replace q_r1 := x_r.c1; replace f_r0 := x_r.fr 0; replace f_r1 := x_r.fr 1
    have u1 := lay1s v3 1 (lm_small (by omega) (by omega)) HSZ_v3.out
    clear q_a0 q_a1 f_a0 f_a1 q_r0 q_r1 f_r0 f_r1
    generalize v3.alloc (.cells #[.int .u64 1] 31) = v4 at *
    have q_a0 := x_a.c0; have q_a1 := x_a.c1; have f_a0 := x_a.fr 0; have f_a1 := x_a.fr 1
    have q_r0 := x_r.c0; have q_r1 := x_r.c1; have f_r0 := x_r.fr 0; have f_r1 := x_r.fr 1
    skip
    with_reducible refine (RShl_any _ _ _ _ i _ u1 (by omega)).mono ?_
    rintro e v5 ⟨A4, n4, c4, rfl, g4, hb1⟩
    replace x_a := x_a.keep hb1
    replace x_r := x_r.keep hb1
    replace ha := ha.go hb1
    replace u1 := u1.go hb1
    replace hb := bthen hb hb1
    clear hb1
    replace q_a0 := x_a.c0; replace q_a1 := x_a.c1; replace f_a0 := x_a.fr 0; replace f_a1 := x_a.fr 1
    replace q_r0 := x_r.c0; replace q_r1 := x_r.c1; replace f_r0 := x_r.fr 0; replace f_r1 := x_r.fr 1
    rw [vl_one, show (1 : Int).toNat = 1 from rfl, HP.out] at g4
    have zn4 := g4.small hsP
    go_wp2_with fail
    have hb1 := below_alloc v5 (.cells #[.int .u64 1] 31)
    replace x_a := x_a.keep hb1
    replace x_r := x_r.keep hb1
    replace ha := ha.go hb1
    replace u1 := u1.go hb1
    replace g4 := g4.go hb1
    replace hb := bthen hb hb1
    clear hb1
    replace q_a0 := x_a.c0; replace q_a1 := x_a.c1; replace f_a0 := x_a.fr 0; replace f_a1 := x_a.fr 1
    replace q_r0 := x_r.c0; replace q_r1 := x_r.c1; replace f_r0 := x_r.fr 0; replace f_r1 := x_r.fr 1
    have u2 := lay1 v5 1 (lm_small (by omega) (by omega))
    clear q_a0 q_a1 f_a0 f_a1 q_r0 q_r1 f_r0 f_r1
    generalize v5.alloc (.cells #[.int .u64 1] 31) = v6 at *
    have q_a0 := x_a.c0; have q_a1 := x_a.c1; have f_a0 := x_a.fr 0; have f_a1 := x_a.fr 1
    have q_r0 := x_r.c0; have q_r1 := x_r.c1; have f_r0 := x_r.fr 0; have f_r1 := x_r.fr 1
    skip
    with_reducible refine (RSub_any _ _ _ _ _ _ _ _ _ g4 u2 (by omega) (by omega) (by rw [vl_dg Wd2, vl_one, show (1 : Int).toNat = 1 from rfl]; exact hP1)).mono ?_
    rintro e v7 ⟨A5, n5, c5, rfl, g5, hb1⟩
    replace x_a := x_a.keep hb1
    replace x_r := x_r.keep hb1
    replace ha := ha.go hb1
    replace u1 := u1.go hb1
    replace g4 := g4.go hb1
    replace u2 := u2.go hb1
    replace hb := bthen hb hb1
    clear hb1
    replace q_a0 := x_a.c0; replace q_a1 := x_a.c1; replace f_a0 := x_a.fr 0; replace f_a1 := x_a.fr 1
    replace q_r0 := x_r.c0; replace q_r1 := x_r.c1; replace f_r0 := x_r.fr 0; replace f_r1 := x_r.fr 1
    rw [vl_dg Wd2, vl_one, show (1 : Int).toNat = 1 from rfl] at g5
    have zn5 := g5.small hsM
    go_wp2_with fail
    with_reducible refine (RAdd_any _ _ _ _ _ _ _ _ _ ha g5 (by omega) (by omega)).mono ?_
    rintro e v8 ⟨A6, n6, c6, rfl, g6, hb1⟩
    replace x_a := x_a.keep hb1
    replace x_r := x_r.keep hb1
    replace ha := ha.go hb1
    replace u1 := u1.go hb1
    replace g4 := g4.go hb1
    replace u2 := u2.go hb1
    replace g5 := g5.go hb1
    replace hb := bthen hb hb1
    clear hb1
    replace q_a0 := x_a.c0; replace q_a1 := x_a.c1; replace f_a0 := x_a.fr 0; replace f_a1 := x_a.fr 1
    replace q_r0 := x_r.c0; replace q_r1 := x_r.c1; replace f_r0 := x_r.fr 0; replace f_r1 := x_r.fr 1
    rw [vl_dg Wd2, vl_dg Wd2] at g6
    have zn6 := g6.small hsS
    go_wp2_with fail
    with_reducible refine (RShr_any _ _ _ _ i _ g6 (by omega)).mono ?_
    rintro e v9 ⟨A7, n7, c7, rfl, g7, hb1⟩
    replace x_a := x_a.keep hb1
    replace x_r := x_r.keep hb1
    replace ha := ha.go hb1
    replace u1 := u1.go hb1
    replace g4 := g4.go hb1
    replace u2 := u2.go hb1
    replace g5 := g5.go hb1
    replace g6 := g6.go hb1
    replace hb := bthen hb hb1
    clear hb1
    replace q_a0 := x_a.c0; replace q_a1 := x_a.c1; replace f_a0 := x_a.fr 0; replace f_a1 := x_a.fr 1
    replace q_r0 := x_r.c0; replace q_r1 := x_r.c1; replace f_r0 := x_r.fr 0; replace f_r1 := x_r.fr 1
    rw [vl_dg Wd2, HQ.out] at g7
    have zn7 := g7.small hsQ
    go_wp2_with fail
    with_reducible refine (RMake_any (b := true) g7 Q k (vl_dg Wd2 _) hsQ (by omega)).mono ?_
    rintro e v10 ⟨A8, n8, c8, rfl, z1, hb1⟩
    replace x_a := x_a.keep hb1
    replace x_r := x_r.keep hb1
    replace ha := ha.go hb1
    replace u1 := u1.go hb1
    replace g4 := g4.go hb1
    replace u2 := u2.go hb1
    replace g5 := g5.go hb1
    replace g6 := g6.go hb1
    replace g7 := g7.go hb1
    replace hb := bthen hb hb1
    clear hb1
    replace q_a0 := x_a.c0; replace q_a1 := x_a.c1; replace f_a0 := x_a.fr 0; replace f_a1 := x_a.fr 1
    replace q_r0 := x_r.c0; replace q_r1 := x_r.c1; replace f_r0 := x_r.fr 0; replace f_r1 := x_r.fr 1
    go_wp2
    replace x_a := x_a.aside (b' := (ngB (zi true Q))) (A' := A8) (n' := n8) (c' := c8) (g := w.heap.size + 1) (by omega)
    replace ha := ha.sput (b' := (ngB (zi true Q))) (A' := A8) (n' := n8) (c' := c8) x_r
    replace u1 := u1.sput (b' := (ngB (zi true Q))) (A' := A8) (n' := n8) (c' := c8) x_r
    replace g4 := g4.sput (b' := (ngB (zi true Q))) (A' := A8) (n' := n8) (c' := c8) x_r
    replace u2 := u2.sput (b' := (ngB (zi true Q))) (A' := A8) (n' := n8) (c' := c8) x_r
    replace g5 := g5.sput (b' := (ngB (zi true Q))) (A' := A8) (n' := n8) (c' := c8) x_r
    replace g6 := g6.sput (b' := (ngB (zi true Q))) (A' := A8) (n' := n8) (c' := c8) x_r
    replace g7 := g7.sput (b' := (ngB (zi true Q))) (A' := A8) (n' := n8) (c' := c8) x_r
    replace z1 := z1.put (b' := (ngB (zi true Q))) (A' := A8) (n' := n8) (c' := c8) x_r
    replace hb := put_below (g := w.heap.size + 1) hb (by omega) (.bool (ngB (zi true Q))) (.slice A8 n8 c8)
    replace x_r := x_r.put (ngB (zi true Q)) A8 n8 c8
    clear q_a0 q_a1 f_a0 f_a1 q_r0 q_r1 f_r0 f_r1
    have hsz_v11 : ((v10.setCell ⟨w.heap.size + 1, 0, none⟩ (.bool (ngB (zi true Q)))).setCell ⟨w.heap.size + 1, 1, none⟩ (.slice A8 n8 c8)).heap.size = v10.heap.size := by simp [World.setCell]
    generalize (v10.setCell ⟨w.heap.size + 1, 0, none⟩ (.bool (ngB (zi true Q)))).setCell ⟨w.heap.size + 1, 1, none⟩ (.slice A8 n8 c8) = v11 at *
    have HSZ_v11 := Lib.hid hsz_v11; clear hsz_v11
    have q_a0 := x_a.c0; have q_a1 := x_a.c1; have f_a0 := x_a.fr 0; have f_a1 := x_a.fr 1
    have q_r0 := x_r.c0; have q_r1 := x_r.c1; have f_r0 := x_r.fr 0; have f_r1 := x_r.fr 1
    refine bodyPost_ret (v := .agg #[.bool (ngB (zi true Q)), .slice A8 n8 c8]) (by simp [results, Tryd.results81, go_sem, q_r0, q_r1]) rfl ?_
    exact ⟨_, _, _, rfl, z1, hb⟩
  · have hng : ngB X = false := by unfold ngB; simpa using hX
    have hXe : X / 2 ^ sc i = zi false (X.natAbs / 2 ^ sc i) := shr_nn (by omega)
    rw [hXe]
    have hsQ : Sm (X.natAbs / 2 ^ sc i) k := (hsi.mono (by omega)).div _
    clear hXe hX hsi
    generalize hN9 : X.natAbs = N at *
    have HNA := Lib.hid hN9; clear hN9
    generalize hQ9 : N / 2 ^ sc i = Q at *
    have HQ := Lib.hid hQ9; clear hQ9
    have HNG := Lib.hid hng; clear hng
    go_enter Tryd.func81, Tryd.ntmps81
    go_wp2_with fail
    obtain ⟨hb, x_a, x_r⟩ := box2 w b A n c false none 0 0
    generalize (w.alloc (.cells #[.bool b, .slice A n c] 24)).alloc (.cells #[.bool false, .slice none 0 0] 24) = v1 at *
    replace h := h.keep hb
    have q_a0 := x_a.c0; have q_a1 := x_a.c1; have f_a0 := x_a.fr 0; have f_a1 := x_a.fr 1
    have q_r0 := x_r.c0; have q_r1 := x_r.c1; have f_r0 := x_r.fr 0; have f_r1 := x_r.fr 1
    go_wp2_with fail
    with_reducible refine (RNormZ_any h j (Nat.le_refl _) (by omega)).mono ?_
    rintro e v2 ⟨A3, n3, c3, rfl, za, hb1⟩
    replace x_a := x_a.keep hb1
    replace x_r := x_r.keep hb1
    replace h := h.keep hb1
    replace hb := bthen hb hb1
    clear hb1
    replace q_a0 := x_a.c0; replace q_a1 := x_a.c1; replace f_a0 := x_a.fr 0; replace f_a1 := x_a.fr 1
    replace q_r0 := x_r.c0; replace q_r1 := x_r.c1; replace f_r0 := x_r.fr 0; replace f_r1 := x_r.fr 1
    rw [HNG.out]
    clear h
    go_wp2_with fail
    replace x_r := x_r.aside (b' := false) (A' := A3) (n' := n3) (c' := c3) (g := w.heap.size) (by omega)
    replace za := za.put (b' := false) (A' := A3) (n' := n3) (c' := c3) x_a
    replace hb := put_below (g := w.heap.size) hb (by omega) (.bool false) (.slice A3 n3 c3)
    replace x_a := x_a.put false A3 n3 c3
    clear q_a0 q_a1 f_a0 f_a1 q_r0 q_r1 f_r0 f_r1
    generalize (v2.setCell ⟨w.heap.size, 0, none⟩ (.bool false)).setCell ⟨w.heap.size, 1, none⟩ (.slice A3 n3 c3) = v3 at *
    have q_a0 := x_a.c0; have q_a1 := x_a.c1; have f_a0 := x_a.fr 0; have f_a1 := x_a.fr 1
    have q_r0 := x_r.c0; have q_r1 := x_r.c1; have f_r0 := x_r.fr 0; have f_r1 := x_r.fr 1
    have ha := za.1; have hz1 := za.2
    rw [HNA.out] at ha
    clear za
    skip
    with_reducible refine (RShr_any _ _ _ _ i _ ha (by omega)).mono ?_
    rintro e v4 ⟨A7, n7, c7, rfl, g7, hb1⟩
    replace x_a := x_a.keep hb1
    replace x_r := x_r.keep hb1
    replace ha := ha.go hb1
    replace hb := bthen hb hb1
    clear hb1
    replace q_a0 := x_a.c0; replace q_a1 := x_a.c1; replace f_a0 := x_a.fr 0; replace f_a1 := x_a.fr 1
    replace q_r0 := x_r.c0; replace q_r1 := x_r.c1; replace f_r0 := x_r.fr 0; replace f_r1 := x_r.fr 1
    rw [vl_dg Wd2, HQ.out] at g7
    have zn7 := g7.small hsQ
    go_wp2_with fail
    with_reducible refine (RMake_any (b := false) g7 Q k (vl_dg Wd2 _) hsQ (by omega)).mono ?_
    rintro e v5 ⟨A8, n8, c8, rfl, z1, hb1⟩
    replace x_a := x_a.keep hb1
    replace x_r := x_r.keep hb1
    replace ha := ha.go hb1
    replace g7 := g7.go hb1
    replace hb := bthen hb hb1
    clear hb1
    replace q_a0 := x_a.c0; replace q_a1 := x_a.c1; replace f_a0 := x_a.fr 0; replace f_a1 := x_a.fr 1
    replace q_r0 := x_r.c0; replace q_r1 := x_r.c1; replace f_r0 := x_r.fr 0; replace f_r1 := x_r.fr 1
    go_wp2
    replace x_a := x_a.aside (b' := (ngB (zi false Q))) (A' := A8) (n' := n8) (c' := c8) (g := w.heap.size + 1) (by omega)
    replace ha := ha.sput (b' := (ngB (zi false Q))) (A' := A8) (n' := n8) (c' := c8) x_r
    replace g7 := g7.sput (b' := (ngB (zi false Q))) (A' := A8) (n' := n8) (c' := c8) x_r
    replace z1 := z1.put (b' := (ngB (zi false Q))) (A' := A8) (n' := n8) (c' := c8) x_r
    replace hb := put_below (g := w.heap.size + 1) hb (by omega) (.bool (ngB (zi false Q))) (.slice A8 n8 c8)
    replace x_r := x_r.put (ngB (zi false Q)) A8 n8 c8
    clear q_a0 q_a1 f_a0 f_a1 q_r0 q_r1 f_r0 f_r1
    generalize (v5.setCell ⟨w.heap.size + 1, 0, none⟩ (.bool (ngB (zi false Q)))).setCell ⟨w.heap.size + 1, 1, none⟩ (.slice A8 n8 c8) = v6 at *
    have q_a0 := x_a.c0; have q_a1 := x_a.c1; have f_a0 := x_a.fr 0; have f_a1 := x_a.fr 1
    have q_r0 := x_r.c0; have q_r1 := x_r.c1; have f_r0 := x_r.fr 0; have f_r1 := x_r.fr 1
    refine bodyPost_ret (v := .agg #[.bool (ngB (zi false Q)), .slice A8 n8 c8]) (by simp [results, Tryd.results81, go_sem, q_r0, q_r1]) rfl ?_
    exact ⟨_, _, _, rfl, z1, hb⟩

end Go.Proofs.YtcoidcbbdibnaaaDoor
