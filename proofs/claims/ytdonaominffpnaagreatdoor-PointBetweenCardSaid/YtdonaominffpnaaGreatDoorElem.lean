/-
 elem: steps.
-/
import Derived.Test.YtdonaominffpnaaGreatDoorEbox
import Derived.Test.YtdonaominffpnaaGreatDoorQdef
import Derived.Test.YtdonaominffpnaaGreatDoorLsum2
namespace Go.Proofs.YtdonaominffpnaaGreatDoor
set_option maxRecDepth 100000
set_option maxHeartbeats 4000000
set_option linter.unusedVariables false
open Go.RowKit
variable {b b2 b3 b4 : Bool} {A A2 A3 A4 : Option Addr} {n c n2 c2 n3 c3 n4 c4 j j2 : Nat} {X Y U V q e : Int} {w : World}
theorem dg_lone {N : Nat} (h0 : 0 < N) (h1 : N < Wd) : dg Wd N = [(N : Int)] := by rw [dg_pos Wd2 h0, Nat.mod_eq_of_lt h1, Nat.div_eq_of_lt h1, dg_zero]
theorem sure_any (x : Int) :
  Calls Tryz.prog 206 #[.agg #[.bool b, .slice A n c, .bool b2, .slice A2 n2 c2, .int .i64 q], .int .i64 x] w (fun e w' => e = .returned (.agg #[.bool b, .slice A n c, .bool b2, .slice A2 n2 c2, .int .i64 q]) ∧ Below w.heap.size w w') := by
 go_enter Tryz.func206, Tryz.ntmps206
 go_wp2
 refine bodyPost_ret (v := .agg #[.bool b, .slice A n c, .bool b2, .slice A2 n2 c2, .int .i64 q]) (by simp [results, Tryz.results206, go_sem]) rfl ?_
 exact ⟨rfl, below_alloc2 _ _ _⟩
theorem Ewhole_any (K : Int) (hK : -1000000000 ≤ K ∧ K ≤ 1000000000) :
  Calls Tryz.prog 215 #[.int .i64 K] w (fun e w' => ∃ A n c, e = .returned (.agg #[.bool (ngB K), .slice A n c]) ∧ Zr w' (ngB K) A n c K 1 ∧ Below w.heap.size w w') := by
 have HB := Lib.hid hK
 rcases (show K < 0 ∨ (0 ≤ K ∧ ¬ K < 0) by omega) with h | ⟨h, h2⟩
 ·have HN : Hid (ngB K = true) := Lib.hid (by unfold ngB; simp; omega)
  have HL : Hid (Lm (-K)) := Lib.hid (lm_small (by omega) (by omega))
  go_enter Tryz.func215, Tryz.ntmps215
  go_wp2
  refine bodyPost_ret (v := .agg #[.bool true, .slice (some ⟨w.heap.size + 1, 0, none⟩) 1 1]) (by simp [results, Tryz.results215, go_sem]) rfl ?_
  exact ⟨_, _, _, by rw [HN.out], ⟨_, lay1s (w.alloc (.cells #[.bool true, .slice (some ⟨w.heap.size + 1, 0, none⟩) 1 1] 24)) (-K) HL.out (by simp), by rw [HN.out]; simp [vl, zi]; have := HB.out; omega, Nat.le_refl _⟩, below_alloc2 _ _ _⟩
 ·have HN : Hid (ngB K = false) := Lib.hid (by unfold ngB; simp; omega)
  have HL : Hid (Lm (K)) := Lib.hid (lm_small (by omega) (by omega))
  go_enter Tryz.func215, Tryz.ntmps215
  go_wp2
  refine bodyPost_ret (v := .agg #[.bool false, .slice (some ⟨w.heap.size + 1, 0, none⟩) 1 1]) (by simp [results, Tryz.results215, go_sem]) rfl ?_
  exact ⟨_, _, _, by rw [HN.out], ⟨_, lay1s (w.alloc (.cells #[.bool false, .slice (some ⟨w.heap.size + 1, 0, none⟩) 1 1] 24)) (K) HL.out (by simp), by rw [HN.out]; simp [vl, zi]; have := HB.out; omega, Nat.le_refl _⟩, below_alloc2 _ _ _⟩
theorem Zn.lone {k : Nat} (h : Zn w A n c X k) (h0 : X ≠ 0) (h1 : X.natAbs < 1000000001) : n = 1 ∧ 1 ≤ c ∧ ∃ p o, A = some ⟨p, o, none⟩ ∧ w.cell? ⟨p, o, none⟩ = some (.int .u64 (X.natAbs : Int)) := by
 have hr := h.1
 rw [dg_lone (by omega) (by rw [Wd_eq]; omega)] at hr
 have hn := hr.len
 obtain ⟨p, o, e, _, hc⟩ := hr.at_ (by rw [← hn]; simp)
 have := hr.cap
 exact ⟨hn.symm, by rw [← hn] at this; simpa using this, p, o, e, by simpa using hc 0 (by simp)⟩
theorem number_any (h : Zn w A n c X 8) (hX : -1000000000 ≤ X ∧ X ≤ 1000000000) :
  Calls Tryz.prog 210 #[.agg #[.bool (ngB X), .slice A n c]] w (fun e w' => e = .returned (.int .i64 X) ∧ Below w.heap.size w w') := by
 rcases (show X = 0 ∨ 0 < X ∨ X < 0 by omega) with rfl | h0 | h0
 ·have hn := h.1.len; rw [show (0 : Int).natAbs = 0 from rfl, dg_zero] at hn; subst hn; clear hX h
  go_enter Tryz.func210, Tryz.ntmps210
  go_wp2
  go_ret
  exact ⟨rfl, below_alloc _ _⟩
 ·obtain ⟨rfl, h1, p, o, rfl, _⟩ := h.lone (by omega) (by omega)
  obtain ⟨K, hK⟩ : ∃ K : Int, K = (X.natAbs : Int) := ⟨_, rfl⟩
  have HN : Hid (ngB X = false) := Lib.hid (by unfold ngB; simp; omega)
  have hk : 1 ≤ K ∧ K ≤ 1000000000 := by omega
  have HX : Hid (X = K) := Lib.hid (by omega)
  rw [HN.out]
  have h2 := (h.keep (below_alloc w (.cells #[.bool false, .slice (some ⟨p, o, none⟩) 1 c] 24))).lone (by omega) (by omega)
  obtain ⟨_, _, p2, o2, e2, h2⟩ := h2
  injection e2 with e2; injection e2 with e3 e4; subst e3; subst e4; rw [← hK] at h2; clear h hX h0 hK
  go_enter Tryz.func210, Tryz.ntmps210
  go_wp2
  go_ret
  rw [HX.out]; exact ⟨rfl, below_alloc _ _⟩
 ·obtain ⟨rfl, h1, p, o, rfl, _⟩ := h.lone (by omega) (by omega)
  obtain ⟨K, hK⟩ : ∃ K : Int, K = (X.natAbs : Int) := ⟨_, rfl⟩
  have HN : Hid (ngB X = true) := Lib.hid (by unfold ngB; simp; omega)
  have hk : 1 ≤ K ∧ K ≤ 1000000000 := by omega
  have HX : Hid (X = -K) := Lib.hid (by omega)
  rw [HN.out]
  have h2 := (h.keep (below_alloc w (.cells #[.bool true, .slice (some ⟨p, o, none⟩) 1 c] 24))).lone (by omega) (by omega)
  obtain ⟨_, _, p2, o2, e2, h2⟩ := h2
  injection e2 with e2; injection e2 with e3 e4; subst e3; subst e4; rw [← hK] at h2; clear h hX h0 hK
  go_enter Tryz.func210, Tryz.ntmps210
  go_wp2
  go_ret
  rw [HX.out]; exact ⟨rfl, below_alloc _ _⟩
theorem Eplus_any (h : Zn w A n c X 8) (h2 : Zn w A2 n2 c2 Y 8) (h3 : Zn w A3 n3 c3 U 8) (h4 : Zn w A4 n4 c4 V 8) (hv : 0 ≤ q ∧ q ≤ 2048 ∧ X ≤ Y) (hv2 : U ≤ V) (P R : Int) (hP : (mn4 (fun x y => x + y) X Y U V = P ∧ mx4 (fun x y => x + y) X Y U V = R) ∧ Si P 8 ∧ Si R 8) :
  Calls Tryz.prog 255 #[.agg #[.bool (ngB X), .slice A n c, .bool (ngB Y), .slice A2 n2 c2, .int .i64 q], .agg #[.bool (ngB U), .slice A3 n3 c3, .bool (ngB V), .slice A4 n4 c4, .int .i64 q]] w (OuB w P R q 8) := by
 have HP := Lib.hid hP; clear hP
 go_enter Tryz.func255, Tryz.ntmps255
 go_wp2_with fail
 refine al3c fun v1 hb x_a x_b x_r => ?_
 replace x_a := Nx.of x_a; replace x_b := Nx.of x_b; replace x_r := Nx.of x_r
 obtain ⟨h, h2, h3, h4⟩ := mv4 hb h h2 h3 h4
 have q_a := x_a.al
 have q_b := x_b.al
 have q_r := x_r.al
 clear q_r
 go_wp2_with fail
 skip
 with_reducible refine (LAdd_any h.zr h2.zr h3.zr h4.zr hv hv2 8 (by omega) (by omega) (by omega) (by omega) 9 (by omega) (by omega)).mono ?_
 rintro e v2 ⟨A5, n5, c5, A6, n6, c6, rfl, z5, z6, hb1⟩
 obtain ⟨x_r, hb⟩ := mv2 hb1 x_r hb
 clear hb1
 rw [HP.out.1.1] at z5 ⊢; rw [HP.out.1.2] at z6 ⊢; replace z5 := z5.slim HP.out.2.1; replace z6 := z6.slim HP.out.2.2
 go_wp2_with fail
 with_reducible refine (sure_any _).mono ?_
 rintro e v3 ⟨rfl, hb1⟩
 obtain ⟨x_r, z5, z6, hb⟩ := mv4 hb1 x_r z5 z6 hb
 clear hb1
 have q_r := x_r.al
 go_wp2
 clear q_r
 refine x_r.st fun v4 hs hx => ?_
 obtain ⟨z5, z6, hb⟩ := ms3 hs ⟨trivial, trivial, by omega⟩ z5 z6 hb
 replace x_r := hx; clear hx hs
 have q_r := x_r.al
 skip
 refine bodyPost_ret (v := .agg #[.bool (ngB P), .slice A5 n5 c5, .bool (ngB R), .slice A6 n6 c6, .int .i64 q]) (by simp [results, Tryz.results255, go_sem, q_r]) rfl ?_
 exact ⟨_, _, _, _, _, _, rfl, z5, z6, hb⟩
theorem Eminus_any (h : Zn w A n c X 8) (h2 : Zn w A2 n2 c2 Y 8) (h3 : Zn w A3 n3 c3 U 8) (h4 : Zn w A4 n4 c4 V 8) (hv : 0 ≤ q ∧ q ≤ 2048 ∧ X ≤ Y) (hv2 : U ≤ V) (P R : Int) (hP : (mn4 (fun x y => x - y) X Y U V = P ∧ mx4 (fun x y => x - y) X Y U V = R) ∧ Si P 8 ∧ Si R 8) :
  Calls Tryz.prog 204 #[.agg #[.bool (ngB X), .slice A n c, .bool (ngB Y), .slice A2 n2 c2, .int .i64 q], .agg #[.bool (ngB U), .slice A3 n3 c3, .bool (ngB V), .slice A4 n4 c4, .int .i64 q]] w (OuB w P R q 8) := by
 have HP := Lib.hid hP; clear hP
 go_enter Tryz.func204, Tryz.ntmps204
 go_wp2_with fail
 refine al3c fun v1 hb x_a x_b x_r => ?_
 replace x_a := Nx.of x_a; replace x_b := Nx.of x_b; replace x_r := Nx.of x_r
 obtain ⟨h, h2, h3, h4⟩ := mv4 hb h h2 h3 h4
 have q_a := x_a.al
 have q_b := x_b.al
 have q_r := x_r.al
 clear q_r
 go_wp2_with fail
 skip
 with_reducible refine (LSub_any h.zr h2.zr h3.zr h4.zr hv hv2 8 (by omega) (by omega) (by omega) (by omega) 9 (by omega) (by omega)).mono ?_
 rintro e v2 ⟨A5, n5, c5, A6, n6, c6, rfl, z5, z6, hb1⟩
 obtain ⟨x_r, hb⟩ := mv2 hb1 x_r hb
 clear hb1
 rw [HP.out.1.1] at z5 ⊢; rw [HP.out.1.2] at z6 ⊢; replace z5 := z5.slim HP.out.2.1; replace z6 := z6.slim HP.out.2.2
 go_wp2_with fail
 with_reducible refine (sure_any _).mono ?_
 rintro e v3 ⟨rfl, hb1⟩
 obtain ⟨x_r, z5, z6, hb⟩ := mv4 hb1 x_r z5 z6 hb
 clear hb1
 have q_r := x_r.al
 go_wp2
 clear q_r
 refine x_r.st fun v4 hs hx => ?_
 obtain ⟨z5, z6, hb⟩ := ms3 hs ⟨trivial, trivial, by omega⟩ z5 z6 hb
 replace x_r := hx; clear hx hs
 have q_r := x_r.al
 skip
 refine bodyPost_ret (v := .agg #[.bool (ngB P), .slice A5 n5 c5, .bool (ngB R), .slice A6 n6 c6, .int .i64 q]) (by simp [results, Tryz.results204, go_sem, q_r]) rfl ?_
 exact ⟨_, _, _, _, _, _, rfl, z5, z6, hb⟩
theorem Etimes_any (h : Zn w A n c X 8) (h2 : Zn w A2 n2 c2 Y 8) (h3 : Zn w A3 n3 c3 U 8) (h4 : Zn w A4 n4 c4 V 8) (hv : 0 ≤ q ∧ q ≤ 2048 ∧ X ≤ Y) (hv2 : U ≤ V) (P R : Int) (hP : (mn4 (fun x y => flI (x * y) (-q)) X Y U V = P ∧ mx4 (fun x y => -flI (-(x * y)) (-q)) X Y U V = R) ∧ Si P 8 ∧ Si R 8) :
  Calls Tryz.prog 247 #[.agg #[.bool (ngB X), .slice A n c, .bool (ngB Y), .slice A2 n2 c2, .int .i64 q], .agg #[.bool (ngB U), .slice A3 n3 c3, .bool (ngB V), .slice A4 n4 c4, .int .i64 q]] w (OuB w P R q 8) := by
 have HP := Lib.hid hP; clear hP
 go_enter Tryz.func247, Tryz.ntmps247
 go_wp2_with fail
 refine al3c fun v1 hb x_a x_b x_r => ?_
 replace x_a := Nx.of x_a; replace x_b := Nx.of x_b; replace x_r := Nx.of x_r
 obtain ⟨h, h2, h3, h4⟩ := mv4 hb h h2 h3 h4
 have q_a := x_a.al
 have q_b := x_b.al
 have q_r := x_r.al
 clear q_r
 go_wp2_with fail
 skip
 with_reducible refine (LMul_any h.zr h2.zr h3.zr h4.zr hv hv2 8 (by omega) (by omega) (by omega) (by omega) 150 (by omega) (by omega)).mono ?_
 rintro e v2 ⟨A5, n5, c5, A6, n6, c6, rfl, z5, z6, hb1⟩
 obtain ⟨x_r, hb⟩ := mv2 hb1 x_r hb
 clear hb1
 rw [HP.out.1.1] at z5 ⊢; rw [HP.out.1.2] at z6 ⊢; replace z5 := z5.slim HP.out.2.1; replace z6 := z6.slim HP.out.2.2
 go_wp2_with fail
 with_reducible refine (sure_any _).mono ?_
 rintro e v3 ⟨rfl, hb1⟩
 obtain ⟨x_r, z5, z6, hb⟩ := mv4 hb1 x_r z5 z6 hb
 clear hb1
 have q_r := x_r.al
 go_wp2
 clear q_r
 refine x_r.st fun v4 hs hx => ?_
 obtain ⟨z5, z6, hb⟩ := ms3 hs ⟨trivial, trivial, by omega⟩ z5 z6 hb
 replace x_r := hx; clear hx hs
 have q_r := x_r.al
 skip
 refine bodyPost_ret (v := .agg #[.bool (ngB P), .slice A5 n5 c5, .bool (ngB R), .slice A6 n6 c6, .int .i64 q]) (by simp [results, Tryz.results247, go_sem, q_r]) rfl ?_
 exact ⟨_, _, _, _, _, _, rfl, z5, z6, hb⟩
theorem Eover_any (h : Zn w A n c X 8) (h2 : Zn w A2 n2 c2 Y 8) (h3 : Zn w A3 n3 c3 U 8) (h4 : Zn w A4 n4 c4 V 8) (hv : 0 ≤ q ∧ q ≤ 2048 ∧ X ≤ Y) (hv2 : U ≤ V) (h0 : U ≠ 0 ∧ V ≠ 0 ∧ ¬ (U ≤ 0 ∧ 0 ≤ V)) (P R : Int) (hP : (mn4 (fun x y => fdI (x * 2 ^ q.toNat) y) X Y U V = P ∧ mx4 (fun x y => cdI (x * 2 ^ q.toNat) y) X Y U V = R) ∧ Si P 8 ∧ Si R 8) :
  Calls Tryz.prog 258 #[.agg #[.bool (ngB X), .slice A n c, .bool (ngB Y), .slice A2 n2 c2, .int .i64 q], .agg #[.bool (ngB U), .slice A3 n3 c3, .bool (ngB V), .slice A4 n4 c4, .int .i64 q]] w (OuB w P R q 8) := by
 have HP := Lib.hid hP; clear hP
 go_enter Tryz.func258, Tryz.ntmps258
 go_wp2_with fail
 refine al3c fun v1 hb x_a x_b x_r => ?_
 replace x_a := Nx.of x_a; replace x_b := Nx.of x_b; replace x_r := Nx.of x_r
 obtain ⟨h, h2, h3, h4⟩ := mv4 hb h h2 h3 h4
 have q_a := x_a.al
 have q_b := x_b.al
 have q_r := x_r.al
 clear q_r
 go_wp2_with fail
 skip
 with_reducible refine (LDiv_any h.zr h2.zr h3.zr h4.zr hv hv2 h0 8 (by omega) (by omega) (by omega) (by omega) 150 (by omega) (by omega)).mono ?_
 rintro e v2 ⟨A5, n5, c5, A6, n6, c6, rfl, z5, z6, hb1⟩
 obtain ⟨x_r, hb⟩ := mv2 hb1 x_r hb
 clear hb1
 rw [HP.out.1.1] at z5 ⊢; rw [HP.out.1.2] at z6 ⊢; replace z5 := z5.slim HP.out.2.1; replace z6 := z6.slim HP.out.2.2
 go_wp2_with fail
 with_reducible refine (sure_any _).mono ?_
 rintro e v3 ⟨rfl, hb1⟩
 obtain ⟨x_r, z5, z6, hb⟩ := mv4 hb1 x_r z5 z6 hb
 clear hb1
 have q_r := x_r.al
 go_wp2
 clear q_r
 refine x_r.st fun v4 hs hx => ?_
 obtain ⟨z5, z6, hb⟩ := ms3 hs ⟨trivial, trivial, by omega⟩ z5 z6 hb
 replace x_r := hx; clear hx hs
 have q_r := x_r.al
 skip
 refine bodyPost_ret (v := .agg #[.bool (ngB P), .slice A5 n5 c5, .bool (ngB R), .slice A6 n6 c6, .int .i64 q]) (by simp [results, Tryz.results258, go_sem, q_r]) rfl ?_
 exact ⟨_, _, _, _, _, _, rfl, z5, z6, hb⟩
end Go.Proofs.YtdonaominffpnaaGreatDoor
