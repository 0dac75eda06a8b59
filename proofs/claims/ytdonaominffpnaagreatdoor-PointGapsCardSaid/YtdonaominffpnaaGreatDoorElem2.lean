/-
 elem: balls.
-/
import Derived.Test.YtdonaominffpnaaGreatDoorElem
import Derived.Test.YtdonaominffpnaaGreatDoorEnum
import Derived.Test.YtdonaominffpnaaGreatDoorCln
import Derived.Test.YtdonaominffpnaaGreatDoorLtimes
import Derived.Test.YtdonaominffpnaaGreatDoorLtimes2
namespace Go.Proofs.YtdonaominffpnaaGreatDoor
set_option maxRecDepth 100000
set_option maxHeartbeats 4000000
set_option linter.unusedVariables false
open Go.RowKit
variable {b b2 b3 b4 : Bool} {A A2 A3 A4 : Option Addr} {n c n2 c2 n3 c3 n4 c4 j j2 : Nat} {X Y U V q e : Int} {w : World}
theorem Escaled_any (h : Zn w A n c X 8) (h2 : Zn w A2 n2 c2 Y 8) (hv : 0 ≤ q ∧ q ≤ 2048 ∧ X ≤ Y) (K : Int) (hK : -1000000000 ≤ K ∧ K ≤ 1000000000) (P R : Int) (hP : (min (X * K) (Y * K) = P ∧ max (X * K) (Y * K) = R) ∧ Si P 8 ∧ Si R 8) :
  Calls Tryz.prog 205 #[.agg #[.bool (ngB X), .slice A n c, .bool (ngB Y), .slice A2 n2 c2, .int .i64 q], .int .i64 K] w (OuB w P R q 8) := by
 have HP := Lib.hid hP; clear hP
 go_enter Tryz.func205, Tryz.ntmps205
 go_upto_region 1 with fail
 refine al2 fun v1 hb x_a x_r => ?_
 replace x_a := Nx.of x_a; replace x_r := Nx.of x_r
 obtain ⟨h, h2⟩ := mv2 hb h h2
 have q_a := x_a.al
 have q_r := x_r.al
 go_region_held3 (fun w' => w'.cell? ⟨w.heap.size, 0, none⟩ = some (.bool (ngB X)) ∧ w'.cell? ⟨w.heap.size, 1, none⟩ = some (.slice A n c) ∧ w'.cell? ⟨w.heap.size, 2, none⟩ = some (.bool (ngB Y)) ∧ w'.cell? ⟨w.heap.size, 3, none⟩ = some (.slice A2 n2 c2) ∧ w'.cell? ⟨w.heap.size, 4, none⟩ = some (.int .i64 q))
  (first | (with_reducible exact ⟨x_a.c0, x_a.c1, x_a.c2, x_a.c3, x_a.c4⟩) | go_keep)
  (first | (go_at_call 215; (with_reducible refine (Ewhole_any K hK).mono ?_); rintro e v2 ⟨A9, n9, c9, rfl, z9, hb1⟩; replace hb1 := undrew hb1; obtain ⟨x_a, x_r, h, h2, hb⟩ := mv5 hb1 x_a x_r h h2 hb; clear hb1; replace q_a := x_a.al; replace q_r := x_r.al) | (go_at_call 214; (with_reducible refine (Times_yes h.zr h2.zr z9 hv (by omega) (by omega) (by omega)).mono ?_); rintro e v3 ⟨A5, n5, c5, A6, n6, c6, rfl, z5, z6, hb1⟩; obtain ⟨x_a, x_r, h, h2, z9, hb⟩ := mv6 hb1 x_a x_r h h2 z9 hb; clear hb1; replace q_a := x_a.al; replace q_r := x_r.al; rw [HP.out.1.1] at z5 ⊢; rw [HP.out.1.2] at z6 ⊢; replace z5 := z5.slim HP.out.2.1; replace z6 := z6.slim HP.out.2.2) | (go_at_call 206; (with_reducible refine (sure_any _).mono ?_); rintro e v4 ⟨rfl, hb1⟩; obtain ⟨x_a, x_r, h, h2, z9, z5, z6, hb⟩ := mv8 hb1 x_a x_r h h2 z9 z5 z6 hb; clear hb1; replace q_a := x_a.al; replace q_r := x_r.al))
 go_wp2
 clear q_a q_r
 refine x_r.st fun v5 hs hx => ?_
 obtain ⟨x_a, h, h2, z9, z5, z6, hb⟩ := ms7 hs ⟨by omega, trivial, trivial, trivial, trivial, trivial, by omega⟩ x_a h h2 z9 z5 z6 hb
 replace x_r := hx; clear hx hs
 have q_a := x_a.al
 have q_r := x_r.al
 skip
 refine bodyPost_ret (v := .agg #[.bool (ngB P), .slice A5 n5 c5, .bool (ngB R), .slice A6 n6 c6, .int .i64 q]) (by simp [results, Tryz.results205, go_sem, q_r]) rfl ?_
 exact ⟨_, _, _, _, _, _, rfl, z5, z6, hb⟩
theorem EballOf_any (h : Zr w b A n c X j) (hj : j ≤ 1000) (he : -4000 ≤ e ∧ e ≤ 4000) (W : Nat) (hW : W < 341) (hs : Si (bLo X e W) 8 ∧ Si (bHi X e W) 8) :
  Calls Tryz.prog 200 #[.agg #[.bool b, .slice A n c, .int .i64 e], .int .i64 (W : Nat)] w (OuB w (bLo X e W) (bHi X e W) W 8) := by
 have HP : Hid ((flI (cM X e) (cE e + W) = bLo X e W ∧ -flI (-cM X e) (cE e + W) = bHi X e W) ∧ Si (bLo X e W) 8 ∧ Si (bHi X e W) 8) := Lib.hid (by rw [(c_yes he).1, (c_yes (X := X) he).2]; exact ⟨⟨rfl, rfl⟩, hs⟩)
 clear hs
 generalize bLo X e W = P at *; generalize bHi X e W = R at *
 go_enter Tryz.func200, Tryz.ntmps200
 go_wp2_with fail
 refine al2c fun v1 hb x_d x_r => ?_
 replace x_d := Dx.of x_d; replace x_r := Nx.of x_r
 replace h := Mv.mv h hb
 have q_d := x_d.al
 have q_r := x_r.al
 clear q_r
 go_wp2_with fail
 skip
 with_reducible refine (Point_yes h (W : Nat) (by omega) 1128 (by omega) (by omega)).mono ?_
 rintro e v2 ⟨A5, n5, c5, A6, n6, c6, rfl, z5, z6, hb1⟩
 obtain ⟨x_r, hb⟩ := mv2 hb1 x_r hb
 clear hb1
 rw [HP.out.1.1] at z5 ⊢; rw [HP.out.1.2] at z6 ⊢; replace z5 := z5.slim HP.out.2.1; replace z6 := z6.slim HP.out.2.2
 go_wp2_with fail
 with_reducible refine (sure_any _).mono ?_
 rintro e v3 ⟨rfl, hb1⟩
 obtain ⟨x_r, z5, z6, hb⟩ := mv4 hb1 x_r z5 z6 hb
 clear hb1
 have q_r := x_r.al
 go_wp2
 clear q_r
 refine x_r.st fun v4 hs hx => ?_
 obtain ⟨z5, z6, hb⟩ := ms3 hs ⟨trivial, trivial, by omega⟩ z5 z6 hb
 replace x_r := hx; clear hx hs
 have q_r := x_r.al
 skip
 refine bodyPost_ret (v := .agg #[.bool (ngB P), .slice A5 n5 c5, .bool (ngB R), .slice A6 n6 c6, .int .i64 (W : Int)]) (by simp [results, Tryz.results200, go_sem, q_r]) rfl ?_
 exact ⟨_, _, _, _, _, _, rfl, z5, z6, hb⟩
theorem Eone_any (W : Nat) (hW : W < 341) :
  Calls Tryz.prog 257 #[.int .i64 (W : Nat)] w (OuB w (twP W) (twP W) W 8) := by
 have HP : Hid ((bLo 1 0 W = twP W ∧ bHi 1 0 W = twP W) ∧ Si (bLo 1 0 W) 8 ∧ Si (bHi 1 0 W) 8) := Lib.hid (one_is hW)
 generalize twP W = P at *
 go_enter Tryz.func257, Tryz.ntmps257
 go_wp2_with fail
 refine al1c fun v1 hb x_r => ?_
 replace x_r := Nx.of x_r
 have q_r := x_r.al
 clear q_r
 skip
 with_reducible refine (Ewhole_any 1 (by omega)).mono ?_
 rintro e v2 ⟨A9, n9, c9, rfl, z9, hb1⟩
 obtain ⟨x_r, hb⟩ := mv2 hb1 x_r hb
 clear hb1
 go_wp2_with fail
 with_reducible refine (EballOf_any z9 (by omega) (by omega) W hW HP.out.2).mono ?_
 rintro e v3 ⟨A5, n5, c5, A6, n6, c6, rfl, z5, z6, hb1⟩
 obtain ⟨x_r, z9, hb⟩ := mv3 hb1 x_r z9 hb
 clear hb1
 rw [HP.out.1.1] at z5 ⊢; rw [HP.out.1.2] at z6 ⊢
 clear z9
 have q_r := x_r.al
 go_wp2
 clear q_r
 refine x_r.st fun v4 hs hx => ?_
 obtain ⟨z5, z6, hb⟩ := ms3 hs ⟨trivial, trivial, by omega⟩ z5 z6 hb
 replace x_r := hx; clear hx hs
 have q_r := x_r.al
 skip
 refine bodyPost_ret (v := .agg #[.bool (ngB P), .slice A5 n5 c5, .bool (ngB P), .slice A6 n6 c6, .int .i64 (W : Int)]) (by simp [results, Tryz.results257, go_sem, q_r]) rfl ?_
 exact ⟨_, _, _, _, _, _, rfl, z5, z6, hb⟩
theorem Eln2_any (W : Nat) (hW : W < 341) (hs : Si (lnA W) 8 ∧ Si (lnZ W) 8) :
  Calls Tryz.prog 201 #[.int .i64 (W : Nat)] w (OuB w (lnA W) (lnZ W) W 8) := by
 have HL := Lib.hid (fun w => KLn2_yes W w hW)
 generalize lnA W = P at *; generalize lnZ W = R at *
 have HP := Lib.hid hs; clear hs
 go_enter Tryz.func201, Tryz.ntmps201
 go_wp2_with fail
 refine al1c fun v1 hb x_r => ?_
 replace x_r := Nx.of x_r
 have q_r := x_r.al
 clear q_r
 skip
 with_reducible refine (HL.out _).mono ?_
 rintro e v2 ⟨A5, n5, c5, A6, n6, c6, rfl, z5, z6, hb1⟩
 obtain ⟨x_r, hb⟩ := mv2 hb1 x_r hb
 clear hb1
 replace z5 := z5.slim HP.out.1; replace z6 := z6.slim HP.out.2
 go_wp2_with fail
 with_reducible refine (sure_any _).mono ?_
 rintro e v3 ⟨rfl, hb1⟩
 obtain ⟨x_r, z5, z6, hb⟩ := mv4 hb1 x_r z5 z6 hb
 clear hb1
 have q_r := x_r.al
 go_wp2
 clear q_r
 refine x_r.st fun v4 hs hx => ?_
 obtain ⟨z5, z6, hb⟩ := ms3 hs ⟨trivial, trivial, by omega⟩ z5 z6 hb
 replace x_r := hx; clear hx hs
 have q_r := x_r.al
 skip
 refine bodyPost_ret (v := .agg #[.bool (ngB P), .slice A5 n5 c5, .bool (ngB R), .slice A6 n6 c6, .int .i64 (W : Int)]) (by simp [results, Tryz.results201, go_sem, q_r]) rfl ?_
 exact ⟨_, _, _, _, _, _, rfl, z5, z6, hb⟩
theorem Edown_any (h : Zn w A n c X 8) (h2 : Zn w A2 n2 c2 Y 8) (hb : b = ngB X) (h0 : 0 < Y) (hk : -1000000000 ≤ X / Y ∧ X / Y ≤ 1000000000) :
  Calls Tryz.prog 202 #[.agg #[.bool b, .slice A n c], .agg #[.bool (ngB Y), .slice A2 n2 c2]] w (fun e w' => e = .returned (.int .i64 (X / Y)) ∧ Below w.heap.size w w') := by
 subst hb
 have HP : Hid (mn4 (fun x y => fdI (x * 2 ^ (0 : Int).toNat) y) X X Y Y = X / Y) := Lib.hid (by unfold mn4; simp [(fd_pos (x := X) h0).1])
 have HK : Hid (Si (X / Y) 8 ∧ -1000000000 ≤ X / Y ∧ X / Y ≤ 1000000000) := Lib.hid ⟨(Si.of_i64 (by omega) (by omega)).mono (by omega), hk⟩
 have HY := Lib.hid h0
 generalize hD : X / Y = D at *; clear hD hk
 obtain ⟨R, hR⟩ : ∃ R, mx4 (fun x y => cdI (x * 2 ^ (0 : Int).toNat) y) X X Y Y = R := ⟨_, rfl⟩
 have HR := Lib.hid hR; clear hR h0
 go_enter Tryz.func202, Tryz.ntmps202
 go_wp2_with fail
 refine al2c fun v1 hb x_x x_y => ?_
 replace x_x := Bx.of x_x; replace x_y := Bx.of x_y
 obtain ⟨h, h2⟩ := mv2 hb h h2
 have q_x := x_x.al
 have q_y := x_y.al
 go_wp2_with fail
 skip
 with_reducible refine (LDiv_any h.zr h.zr h2.zr h2.zr (q := 0) (by omega) (by omega) (by have := HY.out; omega) 8 (by omega) (by omega) (by omega) (by omega) 150 (by omega) (by omega)).mono ?_
 rintro e v2 ⟨A5, n5, c5, A6, n6, c6, rfl, z5, z6, hb1⟩
 replace hb := Mv.mv hb hb1
 clear hb1
 rw [HP.out] at z5 ⊢; rw [HR.out]; replace z5 := z5.slim HK.out.1
 clear z6
 go_wp2_with fail
 with_reducible refine (sure_any _).mono ?_
 rintro e v3 ⟨rfl, hb1⟩
 obtain ⟨z5, hb⟩ := mv2 hb1 z5 hb
 clear hb1
 go_wp2_with fail
 have e_q : w.heap.size ≤ v3.heap.size := hb.size
 refine al1c fun v4 hb1 x_q => ?_
 replace x_q := Nx.of x_q
 obtain ⟨z5, hb⟩ := mv2 hb1 z5 hb
 clear hb1
 have q_q := x_q.al
 skip
 with_reducible refine (number_any z5 HK.out.2).mono ?_
 rintro e v5 ⟨rfl, hb1⟩
 obtain ⟨z5, hb⟩ := mv2 hb1 z5 hb
 clear hb1
 go_wp2
 go_ret
 exact ⟨rfl, hb⟩
theorem Efloor_any (h : Zr w b A n c X j) (hj : j ≤ 1000) (he : -4000 ≤ e ∧ e ≤ 4000) (hk : -1000000000 ≤ flI X e ∧ flI X e ≤ 1000000000) :
  Calls Tryz.prog 245 #[.agg #[.bool b, .slice A n c, .int .i64 e]] w (fun e' w' => e' = .returned (.int .i64 (flI X e)) ∧ Below w.heap.size w w') := by
 have HP : Hid (flI (cM X e) (cE e + li 0) = flI X e) := Lib.hid (by rw [(c_yes he).1, (c_yes (X := X) he).2, show li 0 = 0 by decide, Int.add_zero])
 have HK : Hid (Si (flI X e) 8 ∧ -1000000000 ≤ flI X e ∧ flI X e ≤ 1000000000) := Lib.hid ⟨(Si.of_i64 (by omega) (by omega)).mono (by omega), hk⟩
 generalize flI X e = D at *; clear hk
 go_enter Tryz.func245, Tryz.ntmps245
 go_wp2_with fail
 refine al1c fun v1 hb x_d => ?_
 replace x_d := Dx.of x_d
 replace h := Mv.mv h hb
 have q_d := x_d.al
 go_wp2_with fail
 skip
 with_reducible refine (DFloor_any h 0 1128 (by omega) (by omega)).mono ?_
 rintro e v2 ⟨A5, n5, c5, rfl, z5, hb1⟩
 replace hb := Mv.mv hb hb1
 clear hb1
 rw [HP.out] at z5 ⊢; replace z5 := z5.slim HK.out.1
 go_wp2_with fail
 with_reducible refine (number_any z5 HK.out.2).mono ?_
 rintro e v3 ⟨rfl, hb1⟩
 obtain ⟨z5, hb⟩ := mv2 hb1 z5 hb
 clear hb1
 go_wp2
 go_ret
 exact ⟨rfl, hb⟩
theorem Ethrough_any {fid : Nat} (hent : ∀ (args : Array Value) (w : World), (callFunc fid args).run Tryz.prog w = .ok (.enter fid args) w) (h : Zn w A n c X 8) (h2 : Zn w A2 n2 c2 Y 8) (lo hi : Int → Int) (M : Nat) (N : Int) (hN : N = (M : Int)) (P R : Int) (hP : (lo X = P ∧ hi Y = R) ∧ Si P 8 ∧ Si R 8)
  (hat : ∀ (w' : World) (b : Bool) (A : Option Addr) (n c : Nat) (Z : Int), Z = X ∨ Z = Y → Zr w' b A n c Z 8 → Calls Tryz.prog fid #[.agg #[.bool b, .slice A n c], .int .i64 q, .int .i64 (M : Nat)] w' (Ou2 w' (lo Z) (hi Z) 0 25)) :
  Calls Tryz.prog 211 #[.agg #[.bool (ngB X), .slice A n c, .bool (ngB Y), .slice A2 n2 c2, .int .i64 q], .func (.func fid) #[] #[], .int .i64 N] w (OuB w P R q 8) := by
 subst hN
 have HP := Lib.hid hP; clear hP
 have hat1 := fun w b A n c => hat w b A n c X (Or.inl rfl)
 have hat2 := fun w b A n c => hat w b A n c Y (Or.inr rfl)
 have HA1 := Lib.hid hat1; have HA2 := Lib.hid hat2; clear hat hat1 hat2
 go_enter Tryz.func211, Tryz.ntmps211
 go_wp2_with fail
 refine al2c fun v1 hb x_a x_r => ?_
 replace x_a := Nx.of x_a; replace x_r := Nx.of x_r
 obtain ⟨h, h2⟩ := mv2 hb h h2
 have q_a := x_a.al
 have q_r := x_r.al
 clear q_r
 go_wp2_with fail
 skip
 with_reducible refine (HA1.out _ _ _ _ _ h.zr).mono ?_
 rintro e v2 ⟨A5, n5, c5, A20, n20, c20, rfl, z5, z20, hb1⟩
 obtain ⟨x_a, x_r, h, h2, hb⟩ := mv5 hb1 x_a x_r h h2 hb
 clear hb1
 replace q_a := x_a.al
 rw [HP.out.1.1] at z5 ⊢; replace z5 := z5.slim HP.out.2.1
 have y_a := (((x_a.alloc (.cells #[.bool (ngB P), .slice A5 n5 c5] 24)).alloc (.cells #[.bool (ngB (hi X)), .slice A20 n20 c20] 24))).al
 go_wp2_with fail
 clear y_a
 have l_a_l := x_a.lt
 have l_r_l := x_r.lt
 have e_l : w.heap.size ≤ v2.heap.size := hb.size
 clear q_a
 refine al2c fun v3 hb1 x_l x_l2 => ?_
 replace x_l := Bx.of x_l; replace x_l2 := Bx.of x_l2
 obtain ⟨x_a, x_r, h, h2, z5, z20, hb⟩ := mv7 hb1 x_a x_r h h2 z5 z20 hb
 clear hb1
 have q_a := x_a.al
 have q_l := x_l.al
 have q_l2 := x_l2.al
 clear z20
 skip
 with_reducible refine (HA2.out _ _ _ _ _ h2.zr).mono ?_
 rintro e v4 ⟨A21, n21, c21, A6, n6, c6, rfl, z21, z6, hb1⟩
 obtain ⟨x_a, x_r, x_l, h2, z5, hb⟩ := mv6 hb1 x_a x_r x_l h2 z5 hb
 clear hb1
 replace q_a := x_a.al
 replace q_l := x_l.al
 rw [HP.out.1.2] at z6 ⊢; replace z6 := z6.slim HP.out.2.2
 clear z21
 have y_a := (((x_a.alloc (.cells #[.bool (ngB (lo Y)), .slice A21 n21 c21] 24)).alloc (.cells #[.bool (ngB R), .slice A6 n6 c6] 24))).al
 have y_l := (((x_l.alloc (.cells #[.bool (ngB (lo Y)), .slice A21 n21 c21] 24)).alloc (.cells #[.bool (ngB R), .slice A6 n6 c6] 24))).al
 go_upto_region 3 with fail
 clear y_a y_l
 have l_a_m := x_a.lt
 have l_r_m := x_r.lt
 have l_l_m := x_l.lt
 have e_m : w.heap.size ≤ v4.heap.size := hb.size
 clear q_a q_l
 refine al2 fun v5 hb1 x_m x_m2 => ?_
 replace x_m := Bx.of x_m; replace x_m2 := Bx.of x_m2
 obtain ⟨x_a, x_r, x_l, z5, z6, hb⟩ := mv6 hb1 x_a x_r x_l z5 z6 hb
 clear hb1
 have q_a := x_a.al
 have q_l := x_l.al
 have q_m := x_m.al
 have q_m2 := x_m2.al
 have q_r := x_r.al
 go_wp2
 clear q_a q_r q_l q_m q_m2
 refine x_r.st fun v6 hs hx => ?_
 obtain ⟨x_a, x_l, x_m, x_m2, z5, z6, hb⟩ := ms7 hs ⟨by omega, by omega, by omega, by omega, trivial, trivial, by omega⟩ x_a x_l x_m x_m2 z5 z6 hb
 replace x_r := hx; clear hx hs
 have q_a := x_a.al
 have q_r := x_r.al
 have q_l := x_l.al
 have q_m := x_m.al
 have q_m2 := x_m2.al
 skip
 refine bodyPost_ret (v := .agg #[.bool (ngB P), .slice A5 n5 c5, .bool (ngB R), .slice A6 n6 c6, .int .i64 q]) (by simp [results, Tryz.results211, go_sem, q_r]) rfl ?_
 exact ⟨_, _, _, _, _, _, rfl, z5, z6, hb⟩
end Go.Proofs.YtdonaominffpnaaGreatDoor
