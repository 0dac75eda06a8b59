/-
 elem: At.
-/
import Derived.Test.YtdonaominffpnaaGreatDoorElem4
import Derived.Test.YtdonaominffpnaaGreatDoorKexp
namespace Go.Proofs.YtdonaominffpnaaGreatDoor
variable {A A2 : Option Addr} {X Y q : Int} {c c2 k k2 n n2 : Nat} {v wx : World}
set_option maxRecDepth 100000
set_option maxHeartbeats 4000000
set_option linter.unusedVariables false
open Go.RowKit
theorem Nx.new (w : World) (b : Bool) (A : Option Addr) (n : Nat) (c : Nat) (p : Bool) (B : Option Addr) (m : Nat) (d : Nat) (e : Int) : Nx (w.alloc (.cells #[.bool b, .slice A n c, .bool p, .slice B m d, .int .i64 e] 97)) w.heap.size b A n c p B m d e := heap_alloc_new w _
def NnNew (v : World) (X Y q : Int) (k k2 : Nat) (s : Value) (wx : World) : Prop :=
 ∃ g A n c A2 n2 c2, s = .pointer (some ⟨g, 0, none⟩) ∧ Nx wx g (ngB X) A n c (ngB Y) A2 n2 c2 q ∧ Zn wx A n c X k ∧ Zn wx A2 n2 c2 Y k2 ∧ v.heap.size ≤ g ∧ Below v.heap.size v wx
theorem NnNew.put {g m1 d1 m2 d2 : Nat} {p1 p2 : Bool} {B1 B2 : Option Addr} {e0 : Int} (hv : Below v.heap.size v wx) (x : Nx wx g p1 B1 m1 d1 p2 B2 m2 d2 e0) (hg : v.heap.size ≤ g) (z : Zn wx A n c X k) (z2 : Zn wx A2 n2 c2 Y k2) :
  NnNew v X Y q k k2 (.pointer (some ⟨g, 0, none⟩)) (((((wx.setCell ⟨g, 0, none⟩ (.bool (ngB X))).setCell ⟨g, 1, none⟩ (.slice A n c)).setCell ⟨g, 2, none⟩ (.bool (ngB Y))).setCell ⟨g, 3, none⟩ (.slice A2 n2 c2)).setCell ⟨g, 4, none⟩ (.int .i64 q)) :=
 x.st (F := fun u => NnNew v X Y q k k2 (.pointer (some ⟨g, 0, none⟩)) u) fun u s hx => ⟨g, _, _, _, _, _, _, rfl, hx, Ms.ms s trivial z, Ms.ms s trivial z2, hg, Ms.ms s hg hv⟩
theorem NnNew.new (hv : Below v.heap.size v wx) (z : Zn wx A n c X k) (z2 : Zn wx A2 n2 c2 Y k2) :
  NnNew v X Y q k k2 (.pointer (some ⟨wx.heap.size, 0, none⟩)) (wx.alloc (.cells #[.bool (ngB X), .slice A n c, .bool (ngB Y), .slice A2 n2 c2, .int .i64 q] 97)) :=
 ⟨wx.heap.size, _, _, _, _, _, _, rfl, Nx.new _ _ _ _ _ _ _ _ _ _, z.keep (below_alloc _ _), z2.keep (below_alloc _ _), hv.size, bthen hv (below_alloc _ _)⟩
theorem entE_Atanh : ∀ (args : Array Value) (w : World), (callFunc 232 args).run Tryz.prog w = .ok (.enter 232 args) w := enters_of Tryz.func232 (by kernel_rfl) rfl
variable {b b2 b3 b4 : Bool} {A A2 A3 A4 : Option Addr} {n c n2 c2 n3 c3 n4 c4 j j2 : Nat} {X Y U V q e : Int} {w : World}
theorem fd_z (y : Int) : fdI 0 y = 0 := by unfold fdI; split <;> simp
theorem cd_z (y : Int) : cdI 0 y = 0 := by unfold cdI; rw [Int.neg_zero, fd_z]; rfl
theorem ElnOfRest_one (h : Zr w b A n c X 8) (hT : Tab w) (hX : X = 1) (ℓ : Int) (hℓ : e = ℓ) (hl : -1100 ≤ ℓ ∧ ℓ ≤ 1100) {W : Nat} (hW : 40 ≤ W ∧ W < 341) (Q1 Q2 : Int) (hQ : Q1 = 0 ∧ Q2 = 0) :
  Calls Tryz.prog 254 #[.agg #[.bool b, .slice A n c, .int .i64 e], .int .i64 ℓ, .int .i64 (W : Nat)] w (OuB w (Q1 * 2) (Q2 * 2) W 8) := by
 have p := tw_pos W
 obtain ⟨f, hf⟩ : ∃ f : Int, f = 0 := ⟨_, rfl⟩
 have o : (bLo X f W = twP W ∧ bHi X f W = twP W) ∧ Si (bLo X f W) 8 ∧ Si (bHi X f W) 8 := by subst hX hf; exact one_is hW.2
 have s0 : Si 0 8 := sw_si hW.2 (by omega) (by omega)
 obtain ⟨R1, hR1⟩ : ∃ f : Int, f = 0 := ⟨_, rfl⟩
 obtain ⟨R2, hR2⟩ : ∃ f : Int, f = 0 := ⟨_, rfl⟩
 have HS : Hid (od (cM X e) = X ∧ nE (cM X e) (cE e + li (-ℓ)) = f) := Lib.hid (by
  rw [(c_yes (X := X) (e := e) (by omega)).1, (c_yes (X := X) (e := e) (by omega)).2, hX, od_one, nE_one, hf]
  refine ⟨rfl, ?_⟩
  unfold li; omega)
 have HE : Hid (-4000 ≤ f ∧ f ≤ 4000) := Lib.hid (by omega)
 have HM : Hid ((mn4 (fun x y => x - y) (bLo X f W) (bHi X f W) (twP W) (twP W) = bLo X f W - twP W ∧ mx4 (fun x y => x - y) (bLo X f W) (bHi X f W) (twP W) (twP W) = bHi X f W - twP W) ∧ Si (bLo X f W - twP W) 8 ∧ Si (bHi X f W - twP W) 8) := Lib.hid ⟨by simp only [mn4, mx4]; omega, sw_si hW.2 (by omega) (by omega), sw_si hW.2 (by omega) (by omega)⟩
 have HP : Hid ((mn4 (fun x y => x + y) (bLo X f W) (bHi X f W) (twP W) (twP W) = bLo X f W + twP W ∧ mx4 (fun x y => x + y) (bLo X f W) (bHi X f W) (twP W) (twP W) = bHi X f W + twP W) ∧ Si (bLo X f W + twP W) 8 ∧ Si (bHi X f W + twP W) 8) := Lib.hid ⟨by simp only [mn4, mx4]; omega, sw_si hW.2 (by omega) (by omega), sw_si hW.2 (by omega) (by omega)⟩
 have HD : Hid ((mn4 (fun x y => fdI (x * 2 ^ (W : Int).toNat) y) (bLo X f W - twP W) (bHi X f W - twP W) (bLo X f W + twP W) (bHi X f W + twP W) = R1 ∧ mx4 (fun x y => cdI (x * 2 ^ (W : Int).toNat) y) (bLo X f W - twP W) (bHi X f W - twP W) (bLo X f W + twP W) (bHi X f W + twP W) = R2) ∧ Si R1 8 ∧ Si R2 8) := Lib.hid (by
  rw [hR1, hR2, o.1.1, o.1.2, Int.sub_self]
  exact ⟨by simp only [mn4, mx4, Int.zero_mul, fd_z, cd_z]; omega, s0, s0⟩)
 have HB := Lib.hid o.2
 have HV : Hid (bLo X f W ≤ bHi X f W ∧ 0 < bLo X f W + twP W ∧ 0 ≤ R1 ∧ R1 ≤ R2 ∧ 2 * R2 ≤ twP W) := Lib.hid (by omega)
 have HQ : Hid (Q1 ≤ Q2 ∧ (Si Q1 8 ∧ Si Q2 8) ∧ Si (Q1 * 2) 8 ∧ Si (Q2 * 2) 8) := Lib.hid (by rw [hQ.1, hQ.2]; exact ⟨by omega, ⟨s0, s0⟩, s0, s0⟩)
 have HQP : Hid ((rwLo 1 R1 W (W / 3 + 2) = Q1 ∧ rwHi 1 R2 W (W / 3 + 2) = Q2) ∧ Si Q1 8 ∧ Si Q2 8) := Lib.hid ⟨by rw [hR1, hR2, hQ.1, hQ.2]; exact rw_a0 _ _, HQ.out.2.1⟩
 have wl : wrap64 (-ℓ) = -ℓ := by unfold wrap64; omega
 clear p o s0 hR1 hR2 hf hQ hX hℓ
 have HBO := Lib.hid (fun w A n c (h : Zn w A n c X 9) => EballOf_any h.zr (by omega) HE.out W hW.2 HB.out)
 generalize bLo X f W = P1 at *
 generalize bHi X f W = P2 at *
 have HPT : Hid (∀ w : World, Calls Tryz.prog 257 #[.int .i64 (W : Nat)] w (OuB w (twP W) (twP W) W 8)) := Lib.hid fun w => Eone_any W hW.2
 go_enter Tryz.func254, Tryz.ntmps254
 go_wp2_with fail
 refine al2c fun v1 hb x_x x_r => ?_
 replace x_x := Dx.of x_x; replace x_r := Nx.of x_r
 obtain ⟨h, hT⟩ := mv2 hb h hT
 have q_x := x_x.al
 have q_r := x_r.al
 clear q_r
 skip
 with_reducible refine (DShift_any h (-ℓ) hT 9 (by omega) (by omega)).mono ?_
 rintro e v2 ⟨A5, n5, c5, rfl, z5, hb1⟩
 obtain ⟨x_r, h, hT, hb⟩ := mv4 hb1 x_r h hT hb
 clear hb1
 rw [HS.out.1, HS.out.2] at *
 go_wp2_with fail
 with_reducible refine (HBO.out _ _ _ _ z5).mono ?_
 rintro e v3 ⟨A11, n11, c11, A12, n12, c12, rfl, z11, z12, hb1⟩
 obtain ⟨x_r, z5, hb⟩ := mv3 hb1 x_r z5 hb
 clear hb1
 go_wp2_with fail
 with_reducible refine (HPT.out _).mono ?_
 rintro e v4 ⟨A13, n13, c13, A14, n14, c14, rfl, z13, z14, hb1⟩
 obtain ⟨x_r, z11, z12, hb⟩ := mv4 hb1 x_r z11 z12 hb
 clear hb1
 go_upto_region 2 with fail
 have l_r_m := x_r.lt
 have e_m : w.heap.size ≤ v4.heap.size := hb.size
 refine al2 fun v5 hb1 x_m x_o => ?_
 replace x_m := Nx.of x_m; replace x_o := Nx.of x_o
 obtain ⟨x_r, z11, z12, z13, z14, hb⟩ := mv6 hb1 x_r z11 z12 z13 z14 hb
 clear hb1
 have q_m := x_m.al
 have q_o := x_o.al
 have hv := Below.refl v5.heap.size v5
 have l_r_u := x_r.lt
 have l_m_u := x_m.lt
 have l_o_u := x_o.lt
 go_cut [9] (fun s9 wx => NnNew v5 R1 R2 (W : Int) 8 8 s9 wx)
 case first =>
  go_region_held3 (fun w' => w'.cell? ⟨v4.heap.size, 0, none⟩ = some (.bool (ngB P1)) ∧ w'.cell? ⟨v4.heap.size, 1, none⟩ = some (.slice A11 n11 c11) ∧ w'.cell? ⟨v4.heap.size, 2, none⟩ = some (.bool (ngB P2)) ∧ w'.cell? ⟨v4.heap.size, 3, none⟩ = some (.slice A12 n12 c12) ∧ w'.cell? ⟨v4.heap.size, 4, none⟩ = some (.int .i64 (W : Int)) ∧ w'.cell? ⟨v4.heap.size + 1, 0, none⟩ = some (.bool (ngB (twP W))) ∧ w'.cell? ⟨v4.heap.size + 1, 1, none⟩ = some (.slice A13 n13 c13) ∧ w'.cell? ⟨v4.heap.size + 1, 2, none⟩ = some (.bool (ngB (twP W))) ∧ w'.cell? ⟨v4.heap.size + 1, 3, none⟩ = some (.slice A14 n14 c14) ∧ w'.cell? ⟨v4.heap.size + 1, 4, none⟩ = some (.int .i64 (W : Int)))
   (first | (with_reducible exact ⟨x_m.c0, x_m.c1, x_m.c2, x_m.c3, x_m.c4, x_o.c0, x_o.c1, x_o.c2, x_o.c3, x_o.c4⟩) | (with_reducible exact ⟨(x_m.alloc _).c0, (x_m.alloc _).c1, (x_m.alloc _).c2, (x_m.alloc _).c3, (x_m.alloc _).c4, (x_o.alloc _).c0, (x_o.alloc _).c1, (x_o.alloc _).c2, (x_o.alloc _).c3, (x_o.alloc _).c4⟩) | (with_reducible exact ⟨(x_m.asideN (by omega)).c0, (x_m.asideN (by omega)).c1, (x_m.asideN (by omega)).c2, (x_m.asideN (by omega)).c3, (x_m.asideN (by omega)).c4, (x_o.asideN (by omega)).c0, (x_o.asideN (by omega)).c1, (x_o.asideN (by omega)).c2, (x_o.asideN (by omega)).c3, (x_o.asideN (by omega)).c4⟩) | (with_reducible exact ⟨((x_m.alloc _).asideN (by omega)).c0, ((x_m.alloc _).asideN (by omega)).c1, ((x_m.alloc _).asideN (by omega)).c2, ((x_m.alloc _).asideN (by omega)).c3, ((x_m.alloc _).asideN (by omega)).c4, ((x_o.alloc _).asideN (by omega)).c0, ((x_o.alloc _).asideN (by omega)).c1, ((x_o.alloc _).asideN (by omega)).c2, ((x_o.alloc _).asideN (by omega)).c3, ((x_o.alloc _).asideN (by omega)).c4⟩) | go_keep)
   (first | (go_at_call 204; (with_reducible refine (Eminus_any z11.drw z12.drw z13.drw z14.drw ⟨by omega, by omega, HV.out.1⟩ (Int.le_refl _) _ _ HM.out).mono ?_); rintro e v6 ⟨A21, n21, c21, A22, n22, c22, rfl, z21, z22, hb1⟩; replace hb1 := undrew hb1; (try replace x_u := x_u.keep hb1); replace hv := bthen hv hb1; have hvs_v6 := hv.size; obtain ⟨x_r, x_m, x_o, z11, z12, z13, z14, hb⟩ := mv8 hb1 x_r x_m x_o z11 z12 z13 z14 hb; clear hb1; replace q_m := x_m.al; replace q_o := x_o.al; (try (have q_u0 := x_u.c0; have f_u0 := x_u.fr 0; have q_u1 := x_u.c1; have f_u1 := x_u.fr 1; have q_u2 := x_u.c2; have f_u2 := x_u.fr 2; have q_u3 := x_u.c3; have f_u3 := x_u.fr 3; have q_u4 := x_u.c4; have f_u4 := x_u.fr 4))) | (go_at_call 204; (with_reducible refine (Eminus_any (z11.keep (below_alloc v5 (.cells #[.bool false, .slice none 0 0, .bool false, .slice none 0 0, .int .i64 0] 97))).drw (z12.keep (below_alloc v5 (.cells #[.bool false, .slice none 0 0, .bool false, .slice none 0 0, .int .i64 0] 97))).drw (z13.keep (below_alloc v5 (.cells #[.bool false, .slice none 0 0, .bool false, .slice none 0 0, .int .i64 0] 97))).drw (z14.keep (below_alloc v5 (.cells #[.bool false, .slice none 0 0, .bool false, .slice none 0 0, .int .i64 0] 97))).drw ⟨by omega, by omega, HV.out.1⟩ (Int.le_refl _) _ _ HM.out).mono ?_); rintro e v6 ⟨A21, n21, c21, A22, n22, c22, rfl, z21, z22, hb1⟩; replace hb1 := undrew hb1; have x_u := (Nx.new v5 false none 0 0 false none 0 0 0).keep hb1; replace hb1 := bthen (below_alloc v5 (.cells #[.bool false, .slice none 0 0, .bool false, .slice none 0 0, .int .i64 0] 97)) hb1; replace hv := bthen hv hb1; have hvs_v6 := hv.size; obtain ⟨x_r, x_m, x_o, z11, z12, z13, z14, hb⟩ := mv8 hb1 x_r x_m x_o z11 z12 z13 z14 hb; clear hb1; replace q_m := x_m.al; replace q_o := x_o.al; (try (have q_u0 := x_u.c0; have f_u0 := x_u.fr 0; have q_u1 := x_u.c1; have f_u1 := x_u.fr 1; have q_u2 := x_u.c2; have f_u2 := x_u.fr 2; have q_u3 := x_u.c3; have f_u3 := x_u.fr 3; have q_u4 := x_u.c4; have f_u4 := x_u.fr 4))) | (go_at_call 255; (with_reducible refine (Eplus_any z11 z12 z13 z14 ⟨by omega, by omega, HV.out.1⟩ (Int.le_refl _) _ _ HP.out).mono ?_); rintro e v7 ⟨A23, n23, c23, A24, n24, c24, rfl, z23, z24, hb1⟩; (try replace x_u := x_u.keep hb1); replace hv := bthen hv hb1; have hvs_v7 := hv.size; obtain ⟨x_r, x_m, x_o, z11, z12, z13, z14, z21, z22⟩ := mv9 hb1 x_r x_m x_o z11 z12 z13 z14 z21 z22; replace hb := Mv.mv hb hb1; clear hb1; replace q_m := x_m.al; replace q_o := x_o.al; (try (have q_u0 := x_u.c0; have f_u0 := x_u.fr 0; have q_u1 := x_u.c1; have f_u1 := x_u.fr 1; have q_u2 := x_u.c2; have f_u2 := x_u.fr 2; have q_u3 := x_u.c3; have f_u3 := x_u.fr 3; have q_u4 := x_u.c4; have f_u4 := x_u.fr 4))) | (go_at_call 255; (with_reducible refine (Eplus_any (z11.keep (below_alloc v6 (.cells #[.bool false, .slice none 0 0, .bool false, .slice none 0 0, .int .i64 0] 97))) (z12.keep (below_alloc v6 (.cells #[.bool false, .slice none 0 0, .bool false, .slice none 0 0, .int .i64 0] 97))) (z13.keep (below_alloc v6 (.cells #[.bool false, .slice none 0 0, .bool false, .slice none 0 0, .int .i64 0] 97))) (z14.keep (below_alloc v6 (.cells #[.bool false, .slice none 0 0, .bool false, .slice none 0 0, .int .i64 0] 97))) ⟨by omega, by omega, HV.out.1⟩ (Int.le_refl _) _ _ HP.out).mono ?_); rintro e v7 ⟨A23, n23, c23, A24, n24, c24, rfl, z23, z24, hb1⟩; have x_u := (Nx.new v6 false none 0 0 false none 0 0 0).keep hb1; replace hb1 := bthen (below_alloc v6 (.cells #[.bool false, .slice none 0 0, .bool false, .slice none 0 0, .int .i64 0] 97)) hb1; replace hv := bthen hv hb1; have hvs_v7 := hv.size; obtain ⟨x_r, x_m, x_o, z11, z12, z13, z14, z21, z22⟩ := mv9 hb1 x_r x_m x_o z11 z12 z13 z14 z21 z22; replace hb := Mv.mv hb hb1; clear hb1; replace q_m := x_m.al; replace q_o := x_o.al; (try (have q_u0 := x_u.c0; have f_u0 := x_u.fr 0; have q_u1 := x_u.c1; have f_u1 := x_u.fr 1; have q_u2 := x_u.c2; have f_u2 := x_u.fr 2; have q_u3 := x_u.c3; have f_u3 := x_u.fr 3; have q_u4 := x_u.c4; have f_u4 := x_u.fr 4))) | (go_at_call 258; (with_reducible refine (Eover_any z21 z22 z23 z24 ⟨by omega, by omega, by have := HV.out.1; omega⟩ (by have := HV.out.1; omega) (by have := HV.out; omega) _ _ HD.out).mono ?_); rintro e v8 ⟨A25, n25, c25, A26, n26, c26, rfl, z25, z26, hb1⟩; (try replace x_u := x_u.keep hb1); replace hv := bthen hv hb1; have hvs_v8 := hv.size; obtain ⟨x_r, x_m, x_o, z11, z12, z13, z14, z21, z22⟩ := mv9 hb1 x_r x_m x_o z11 z12 z13 z14 z21 z22; obtain ⟨z23, z24, hb⟩ := mv3 hb1 z23 z24 hb; clear hb1; replace q_m := x_m.al; replace q_o := x_o.al; (try (have q_u0 := x_u.c0; have f_u0 := x_u.fr 0; have q_u1 := x_u.c1; have f_u1 := x_u.fr 1; have q_u2 := x_u.c2; have f_u2 := x_u.fr 2; have q_u3 := x_u.c3; have f_u3 := x_u.fr 3; have q_u4 := x_u.c4; have f_u4 := x_u.fr 4))) | (go_at_call 258; (with_reducible refine (Eover_any (z21.keep (below_alloc v7 (.cells #[.bool false, .slice none 0 0, .bool false, .slice none 0 0, .int .i64 0] 97))) (z22.keep (below_alloc v7 (.cells #[.bool false, .slice none 0 0, .bool false, .slice none 0 0, .int .i64 0] 97))) (z23.keep (below_alloc v7 (.cells #[.bool false, .slice none 0 0, .bool false, .slice none 0 0, .int .i64 0] 97))) (z24.keep (below_alloc v7 (.cells #[.bool false, .slice none 0 0, .bool false, .slice none 0 0, .int .i64 0] 97))) ⟨by omega, by omega, by have := HV.out.1; omega⟩ (by have := HV.out.1; omega) (by have := HV.out; omega) _ _ HD.out).mono ?_); rintro e v8 ⟨A25, n25, c25, A26, n26, c26, rfl, z25, z26, hb1⟩; have x_u := (Nx.new v7 false none 0 0 false none 0 0 0).keep hb1; replace hb1 := bthen (below_alloc v7 (.cells #[.bool false, .slice none 0 0, .bool false, .slice none 0 0, .int .i64 0] 97)) hb1; replace hv := bthen hv hb1; have hvs_v8 := hv.size; obtain ⟨x_r, x_m, x_o, z11, z12, z13, z14, z21, z22⟩ := mv9 hb1 x_r x_m x_o z11 z12 z13 z14 z21 z22; obtain ⟨z23, z24, hb⟩ := mv3 hb1 z23 z24 hb; clear hb1; replace q_m := x_m.al; replace q_o := x_o.al; (try (have q_u0 := x_u.c0; have f_u0 := x_u.fr 0; have q_u1 := x_u.c1; have f_u1 := x_u.fr 1; have q_u2 := x_u.c2; have f_u2 := x_u.fr 2; have q_u3 := x_u.c3; have f_u3 := x_u.fr 3; have q_u4 := x_u.c4; have f_u4 := x_u.fr 4))))
  all_goals go_wp2_with fail
  all_goals go_meet
  all_goals first | (with_reducible exact NnNew.new hv z25 z26) | (with_reducible exact NnNew.put hv x_u (by omega) z25 z26)
 obtain ⟨g9, Ax10, nx10, cx10, Ay10, ny10, cy10, rfl, x_u, z1_u, z2_u, e_u, hb1⟩ := hcut
 clear hv
 obtain ⟨x_r, x_m, x_o, z11, z12, z13, z14, hb⟩ := mv8 hb1 x_r x_m x_o z11 z12 z13 z14 hb
 clear hb1
 replace q_m := x_m.al
 replace q_o := x_o.al
 clear q_m q_o
 generalize wc = v11 at *
 have q_m := x_m.al
 have q_o := x_o.al
 have q_u := x_u.al
 go_wp2_with fail
 skip
 with_reducible refine (Ethrough_any entE_Atanh z1_u z2_u (fun X => rwLo 1 X W (W / 3 + 2)) (fun X => rwHi 1 X W (W / 3 + 2)) (W / 3 + 2) _ (by omega) Q1 Q2 HQP.out (fun w b A n c Z hZ k => KAtanh_yes k W (W / 3 + 2) (by omega) (by omega) (by have := HV.out; rcases hZ with rfl | rfl <;> omega) (by omega))).mono ?_
 rintro e v12 ⟨A31, n31, c31, A32, n32, c32, rfl, z31, z32, hb1⟩
 obtain ⟨x_r, z1_u, z2_u, hb⟩ := mv4 hb1 x_r z1_u z2_u hb
 clear hb1
 go_wp2_with fail
 with_reducible refine (Escaled_any z31 z32 ⟨by omega, by omega, HQ.out.1⟩ 2 (by omega) (Q1 * 2) (Q2 * 2) ⟨by have := HQ.out.1; omega, HQ.out.2.2⟩).mono ?_
 rintro e v13 ⟨A33, n33, c33, A34, n34, c34, rfl, z33, z34, hb1⟩
 obtain ⟨x_r, z31, z32, hb⟩ := mv4 hb1 x_r z31 z32 hb
 clear hb1
 have q_r := x_r.al
 go_wp2
 clear q_r
 refine x_r.st fun v14 hs hx => ?_
 obtain ⟨z33, z34, hb⟩ := ms3 hs ⟨trivial, trivial, by omega⟩ z33 z34 hb
 replace x_r := hx; clear hx hs
 have q_r := x_r.al
 skip
 refine bodyPost_ret (v := .agg #[.bool (ngB (Q1 * 2)), .slice A33 n33 c33, .bool (ngB (Q2 * 2)), .slice A34 n34 c34, .int .i64 (W : Int)]) (by simp [results, Tryz.results254, go_sem, q_r]) rfl ?_
 exact ⟨_, _, _, _, _, _, rfl, z33, z34, hb⟩
theorem Elog_one (h : Zr w b A n c X 8) (hT : Tab w) (hX : X = 1) (ℓ : Int) (hℓ : e = ℓ) (hl : ℓ = 0) {W : Nat} (hW : 40 ≤ W ∧ W < 341) (P R : Int) (hP : P = 0 ∧ R = 0) :
  Calls Tryz.prog 253 #[.agg #[], .agg #[.bool b, .slice A n c, .int .i64 e], .int .i64 (W : Nat)] w (OuE w P R W 0) := by
 have hE : -4000 ≤ e ∧ e ≤ 4000 := by omega
 have HLG : Hid (lgI (cM X e) (cE e) = ℓ) := Lib.hid (by rw [(c_yes (X := X) hE).1, (c_yes (X := X) hE).2, hX, ← hℓ]; show e + (bl 1 : Int) - 1 = e; rw [bl_one]; omega)
 have p := tw_pos W
 have ln := (ln_in hW.2).2.2.2.1
 have s0 : Si 0 8 := sw_si hW.2 (by omega) (by omega)
 have HLR := Lib.hid (fun w b A n c (h : Zr w b A n c X 8) hT => ElnOfRest_one h hT hX ℓ hℓ (by omega) hW 0 0 ⟨rfl, rfl⟩)
 rw [Int.zero_mul] at HLR
 have HLN := Lib.hid (fun w => Eln2_any (w := w) W hW.2 (ln_si hW.2))
 obtain ⟨S1, hS1⟩ : ∃ s : Int, 0 = s := ⟨_, rfl⟩
 rw [hS1] at HLR
 obtain ⟨S2, hS2⟩ : ∃ s : Int, S1 = s := ⟨_, rfl⟩
 obtain ⟨M1, hM1⟩ : ∃ s : Int, 0 = s := ⟨_, rfl⟩
 obtain ⟨M2, hM2⟩ : ∃ s : Int, 0 = s := ⟨_, rfl⟩
 have HM : Hid ((min (lnA W * ℓ) (lnZ W * ℓ) = M1 ∧ max (lnA W * ℓ) (lnZ W * ℓ) = M2) ∧ Si M1 8 ∧ Si M2 8) := Lib.hid (by rw [← hM1, ← hM2, hl, Int.mul_zero, Int.mul_zero]; exact ⟨⟨rfl, rfl⟩, s0, s0⟩)
 have HP : Hid ((mn4 (fun x y => x + y) S1 S1 M1 M2 = P ∧ mx4 (fun x y => x + y) S1 S1 M1 M2 = R) ∧ Si P 8 ∧ Si R 8) := Lib.hid (by rw [← hS1, ← hM1, ← hM2, hP.1, hP.2]; exact ⟨⟨rfl, rfl⟩, s0, s0⟩)
 have HV : Hid (S1 ≤ S1 ∧ lnA W ≤ lnZ W ∧ M1 ≤ M2) := Lib.hid (by omega)
 clear hE p ln s0 hS1 hS2 S2 hM1 hM2 hX hP hℓ
 have lg6 : -1100 ≤ ℓ ∧ ℓ ≤ 1100 := by omega
 clear hl
 generalize lnA W = L1 at *
 generalize lnZ W = L2 at *
 go_enter Tryz.func253, Tryz.ntmps253
 go_wp2_with fail
 refine al3c fun v1 hb _ x_x x_r => ?_
 replace x_x := Dx.of x_x; replace x_r := Nx.of x_r
 obtain ⟨h, hT⟩ := mv2 hb h hT
 have q_x := x_x.al
 have q_r := x_r.al
 clear q_r
 skip
 with_reducible refine (DLog_any h (by omega)).mono ?_
 rintro e v2 ⟨rfl, hb1⟩
 obtain ⟨x_x, x_r, h, hT, hb⟩ := mv5 hb1 x_x x_r h hT hb
 clear hb1
 replace q_x := x_x.al
 rw [HLG.out]
 go_wp2_with fail
 with_reducible refine (HLR.out _ _ _ _ _ h hT).mono ?_
 rintro e v3 ⟨A11, n11, c11, A12, n12, c12, rfl, z11, z12, hb1⟩
 obtain ⟨x_x, x_r, h, hT, hb⟩ := mv5 hb1 x_x x_r h hT hb
 clear hb1
 replace q_x := x_x.al
 go_wp2_with fail
 with_reducible refine (HLN.out _).mono ?_
 rintro e v4 ⟨A7, n7, c7, A8, n8, c8, rfl, z7, z8, hb1⟩
 obtain ⟨x_r, z11, z12, hb⟩ := mv4 hb1 x_r z11 z12 hb
 clear hb1
 go_wp2_with fail
 with_reducible refine (Escaled_any z7 z8 ⟨by omega, by omega, HV.out.2.1⟩ ℓ (by omega) M1 M2 HM.out).mono ?_
 rintro e v5 ⟨A13, n13, c13, A14, n14, c14, rfl, z13, z14, hb1⟩
 obtain ⟨x_r, z11, z12, z7, z8, hb⟩ := mv6 hb1 x_r z11 z12 z7 z8 hb
 clear hb1
 go_wp2_with fail
 with_reducible refine (Eplus_any z11 z12 z13 z14 ⟨by omega, by omega, HV.out.1⟩ HV.out.2.2 P R HP.out).mono ?_
 rintro e v6 ⟨A15, n15, c15, A16, n16, c16, rfl, z15, z16, hb1⟩
 obtain ⟨x_r, z11, z12, z13, z14, hb⟩ := mv6 hb1 x_r z11 z12 z13 z14 hb
 clear hb1
 have q_r := x_r.al
 go_wp2
 clear q_r
 refine x_r.st fun v7 hs hx => ?_
 obtain ⟨z15, z16, hb⟩ := ms3 hs ⟨trivial, trivial, by omega⟩ z15 z16 hb
 replace x_r := hx; clear hx hs
 have q_r := x_r.al
 skip
 refine bodyPost_ret (v := .tuple #[.agg #[.bool (ngB P), .slice A15 n15 c15, .bool (ngB R), .slice A16 n16 c16, .int .i64 (W : Int)], .int .i64 0]) (by simp [results, Tryz.results253, go_sem, q_r]) rfl ?_
 exact ⟨_, _, _, _, _, _, rfl, z15, z16, hb⟩
theorem Elog2_pow (h : Zr w b A n c X 8) (hT : Tab w) (hX : X = 1) (ℓ : Int) (hℓ : e = ℓ) (hl : -1100 ≤ ℓ ∧ ℓ ≤ 1100) {W : Nat} (hW : 40 ≤ W ∧ W < 341) (T : Int) (hT2 : twP W * ℓ = T) :
  Calls Tryz.prog 261 #[.agg #[], .agg #[.bool b, .slice A n c, .int .i64 e], .int .i64 (W : Nat)] w (OuE w T T W 0) := by
 have hE : -4000 ≤ e ∧ e ≤ 4000 := by omega
 have HLG : Hid (lgI (cM X e) (cE e) = ℓ) := Lib.hid (by rw [(c_yes (X := X) hE).1, (c_yes (X := X) hE).2, hX, ← hℓ]; show e + (bl 1 : Int) - 1 = e; rw [bl_one]; omega)
 have p := tw_pos W
 have ln := (ln_in hW.2).2
 have s0 : Si 0 8 := sw_si hW.2 (by omega) (by omega)
 have HLR := Lib.hid (fun w b A n c (h : Zr w b A n c X 8) hT => ElnOfRest_one h hT hX ℓ hℓ hl hW 0 0 ⟨rfl, rfl⟩)
 rw [Int.zero_mul] at HLR
 have HLN := Lib.hid (fun w => Eln2_any (w := w) W hW.2 (ln_si hW.2))
 obtain ⟨S1, hS1⟩ : ∃ s : Int, 0 = s := ⟨_, rfl⟩
 rw [hS1] at HLR
 obtain ⟨M1, hM1⟩ : ∃ s : Int, 0 = s := ⟨_, rfl⟩
 have hkb : -(1100 * twP W) ≤ T ∧ T ≤ 1100 * twP W := by have := Int.mul_le_mul_of_nonneg_left (show ℓ ≤ 1100 by omega) (Int.le_of_lt p); have := Int.mul_le_mul_of_nonneg_left (show -1100 ≤ ℓ by omega) (Int.le_of_lt p); omega
 have sT : Si T 8 := sw_si hW.2 (by omega) (by omega)
 have HM : Hid ((mn4 (fun x y => fdI (x * 2 ^ (W : Int).toNat) y) S1 S1 (lnA W) (lnZ W) = M1 ∧ mx4 (fun x y => cdI (x * 2 ^ (W : Int).toNat) y) S1 S1 (lnA W) (lnZ W) = M1) ∧ Si M1 8 ∧ Si M1 8) := Lib.hid (by rw [← hS1, ← hM1]; exact ⟨by simp only [mn4, mx4, Int.zero_mul, fd_z, cd_z]; omega, s0, s0⟩)
 have HP : Hid ((mn4 (fun x y => x + y) M1 M1 T T = T ∧ mx4 (fun x y => x + y) M1 M1 T T = T) ∧ Si T 8 ∧ Si T 8) := Lib.hid ⟨by simp only [mn4, mx4]; omega, sT, sT⟩
 have HK : Hid ((min (twP W * ℓ) (twP W * ℓ) = T ∧ max (twP W * ℓ) (twP W * ℓ) = T) ∧ Si T 8 ∧ Si T 8) := Lib.hid ⟨by omega, sT, sT⟩
 have HV : Hid (S1 ≤ S1 ∧ lnA W ≤ lnZ W ∧ M1 ≤ M1 ∧ 0 < lnA W ∧ 0 < lnZ W) := Lib.hid (by have := tw_big hW.1; omega)
 have HPT : Hid (∀ w : World, Calls Tryz.prog 257 #[.int .i64 (W : Nat)] w (OuB w (twP W) (twP W) W 8)) := Lib.hid fun w => Eone_any W hW.2
 clear hE p ln s0 hS1 hM1 hX hkb sT hT2 hℓ
 generalize lnA W = L1 at *
 generalize lnZ W = L2 at *
 go_enter Tryz.func261, Tryz.ntmps261
 go_wp2_with fail
 refine al3c fun v1 hb _ x_x x_r => ?_
 replace x_x := Dx.of x_x; replace x_r := Nx.of x_r
 obtain ⟨h, hT⟩ := mv2 hb h hT
 have q_x := x_x.al
 have q_r := x_r.al
 clear q_r
 skip
 with_reducible refine (DLog_any h (by omega)).mono ?_
 rintro e v2 ⟨rfl, hb1⟩
 obtain ⟨x_x, x_r, h, hT, hb⟩ := mv5 hb1 x_x x_r h hT hb
 clear hb1
 replace q_x := x_x.al
 rw [HLG.out]
 go_wp2_with fail
 with_reducible refine (HLR.out _ _ _ _ _ h hT).mono ?_
 rintro e v3 ⟨A11, n11, c11, A12, n12, c12, rfl, z11, z12, hb1⟩
 obtain ⟨x_x, x_r, h, hT, hb⟩ := mv5 hb1 x_x x_r h hT hb
 clear hb1
 replace q_x := x_x.al
 go_wp2_with fail
 with_reducible refine (HLN.out _).mono ?_
 rintro e v4 ⟨A7, n7, c7, A8, n8, c8, rfl, z7, z8, hb1⟩
 obtain ⟨x_r, z11, z12, hb⟩ := mv4 hb1 x_r z11 z12 hb
 clear hb1
 go_wp2_with fail
 with_reducible refine (Eover_any z11 z12 z7 z8 ⟨by omega, by omega, HV.out.1⟩ HV.out.2.1 (by have := HV.out; omega) M1 M1 HM.out).mono ?_
 rintro e v5 ⟨A13, n13, c13, A14, n14, c14, rfl, z13, z14, hb1⟩
 obtain ⟨x_r, z11, z12, z7, z8, hb⟩ := mv6 hb1 x_r z11 z12 z7 z8 hb
 clear hb1
 go_wp2_with fail
 with_reducible refine (HPT.out _).mono ?_
 rintro e v6 ⟨A17, n17, c17, A18, n18, c18, rfl, z17, z18, hb1⟩
 obtain ⟨x_r, z13, z14, hb⟩ := mv4 hb1 x_r z13 z14 hb
 clear hb1
 go_wp2_with fail
 with_reducible refine (Escaled_any z17 z18 ⟨by omega, by omega, Int.le_refl _⟩ ℓ (by omega) T T HK.out).mono ?_
 rintro e v7 ⟨A19, n19, c19, A20, n20, c20, rfl, z19, z20, hb1⟩
 obtain ⟨x_r, z13, z14, z17, z18, hb⟩ := mv6 hb1 x_r z13 z14 z17 z18 hb
 clear hb1
 go_wp2_with fail
 with_reducible refine (Eplus_any z13 z14 z19 z20 ⟨by omega, by omega, HV.out.2.2.1⟩ (Int.le_refl _) T T HP.out).mono ?_
 rintro e v8 ⟨A15, n15, c15, A16, n16, c16, rfl, z15, z16, hb1⟩
 obtain ⟨x_r, z13, z14, z19, z20, hb⟩ := mv6 hb1 x_r z13 z14 z19 z20 hb
 clear hb1
 have q_r := x_r.al
 go_wp2
 clear q_r
 refine x_r.st fun v9 hs hx => ?_
 obtain ⟨z15, z16, hb⟩ := ms3 hs ⟨trivial, trivial, by omega⟩ z15 z16 hb
 replace x_r := hx; clear hx hs
 have q_r := x_r.al
 skip
 refine bodyPost_ret (v := .tuple #[.agg #[.bool (ngB T), .slice A15 n15 c15, .bool (ngB T), .slice A16 n16 c16, .int .i64 (W : Int)], .int .i64 0]) (by simp [results, Tryz.results261, go_sem, q_r]) rfl ?_
 exact ⟨_, _, _, _, _, _, rfl, z15, z16, hb⟩
end Go.Proofs.YtdonaominffpnaaGreatDoor
namespace Go.Proofs.YtdonaominffpnaaGreatDoor
set_option maxRecDepth 100000
set_option maxHeartbeats 4000000
set_option linter.unusedVariables false
open Go.RowKit
def OuA (w : World) (X Y q K : Int) (e : Ending) (w' : World) : Prop := ∃ A n c A2 n2 c2, e = .returned (.tuple #[.agg #[.bool (ngB X), .slice A n c, .bool (ngB Y), .slice A2 n2 c2, .int .i64 q], .int .i64 K, .int .i64 0]) ∧ Zn w' A n c X 8 ∧ Zn w' A2 n2 c2 Y 8 ∧ Below w.heap.size w w'
variable {b b2 b3 b4 : Bool} {A A2 A3 A4 : Option Addr} {n c n2 c2 n3 c3 n4 c4 j j2 : Nat} {X Y U V q e : Int} {w : World}
theorem Tab.neD {g : Nat} (h : Tab w) (x : Dx w g b A n c e) : 0 ≠ g := fun k => by
 have h1 := h.at_ 0 (by omega)
 have h2 := x.c0
 rw [← k] at h2
 rw [h2] at h1
 cases h1
theorem Etakes_any (h : Zr w b A n c X 8) (h0 : X ≠ 0) (hE : -4000 ≤ e ∧ e ≤ 4000) (l6 : lgI X e ≤ 9) :
  Calls Tryz.prog 198 #[.agg #[], .agg #[.bool b, .slice A n c, .int .i64 e]] w (fun e' w' => e' = .returned (.bool true) ∧ Below w.heap.size w w') := by
 obtain ⟨c1, c2⟩ := c_yes (X := X) hE
 have HLG : Hid (lgI (cM X e) (cE e) = lgI X e ∧ lgB (cM X e) = true) := Lib.hid ⟨by rw [c1, c2], by rw [c1]; unfold lgB; simp [h0]⟩
 generalize lgI X e = L at *
 clear c1 c2
 go_enter Tryz.func198, Tryz.ntmps198
 go_wp2_with fail
 refine al2c fun v1 hb _ x_x => ?_
 replace x_x := Dx.of x_x
 replace h := Mv.mv h hb
 have q_x := x_x.al
 skip
 with_reducible refine (DLog_any h (by omega)).mono ?_
 rintro e v2 ⟨rfl, hb1⟩
 obtain ⟨x_x, h, hb⟩ := mv3 hb1 x_x h hb
 clear hb1
 replace q_x := x_x.al
 rw [HLG.out.1, HLG.out.2]
 go_wp2
 go_ret
 exact ⟨rfl, hb⟩
theorem EtakesP_any (h : Zr w b A n c X 8) (h0 : 0 < X) (hE : -4000 ≤ e ∧ e ≤ 4000) (hl : -1100 ≤ lgI X e ∧ lgI X e ≤ 1100) :
  Calls Tryz.prog 251 #[.agg #[], .agg #[.bool b, .slice A n c, .int .i64 e]] w (fun e' w' => e' = .returned (.bool true) ∧ Below w.heap.size w w') := by
 obtain ⟨c1, c2⟩ := c_yes (X := X) hE
 have HLG : Hid (lgI (cM X e) (cE e) = lgI X e) := Lib.hid (by rw [c1, c2])
 have HSG : Hid (sgnI (cM X e) = 1) := Lib.hid (by rw [c1]; unfold sgnI; rw [if_neg (by omega), if_neg (by omega)])
 generalize lgI X e = L at *
 clear c1 c2 h0
 go_enter Tryz.func251, Tryz.ntmps251
 go_wp2_with fail
 refine al2c fun v1 hb _ x_x => ?_
 replace x_x := Dx.of x_x
 replace h := Mv.mv h hb
 have q_x := x_x.al
 skip
 with_reducible refine (DLog_any h (by omega)).mono ?_
 rintro e v2 ⟨rfl, hb1⟩
 obtain ⟨x_x, h, hb⟩ := mv3 hb1 x_x h hb
 clear hb1
 replace q_x := x_x.al
 rw [HLG.out]
 go_wp2_with fail
 with_reducible refine (DSign_any h (by omega)).mono ?_
 rintro e v3 ⟨rfl, hb1⟩
 obtain ⟨x_x, h, hb⟩ := mv3 hb1 x_x h hb
 clear hb1
 replace q_x := x_x.al
 rw [HSG.out]
 have l7 : -1100 ≤ L := by omega
 go_wp2
 go_ret
 exact ⟨rfl, hb⟩
theorem Efun0  :
  Calls Tryz.prog 86 #[.int .i64 0] w (fun e' w' => e' = .returned (.iface 131 (.agg #[])) ∧ Below w.heap.size w w') := by
 go_enter Tryz.func86, Tryz.ntmps86
 go_wp2
 go_ret
 exact ⟨rfl, Below.refl _ _⟩
theorem Efun1  :
  Calls Tryz.prog 86 #[.int .i64 1] w (fun e' w' => e' = .returned (.iface 132 (.agg #[])) ∧ Below w.heap.size w w') := by
 go_enter Tryz.func86, Tryz.ntmps86
 go_wp2
 go_ret
 exact ⟨rfl, Below.refl _ _⟩
theorem Efun2  :
  Calls Tryz.prog 86 #[.int .i64 2] w (fun e' w' => e' = .returned (.iface 135 (.agg #[])) ∧ Below w.heap.size w w') := by
 go_enter Tryz.func86, Tryz.ntmps86
 go_wp2
 go_ret
 exact ⟨rfl, Below.refl _ _⟩
theorem Efun3  :
  Calls Tryz.prog 86 #[.int .i64 3] w (fun e' w' => e' = .returned (.iface 136 (.agg #[])) ∧ Below w.heap.size w w') := by
 go_enter Tryz.func86, Tryz.ntmps86
 go_wp2
 go_ret
 exact ⟨rfl, Below.refl _ _⟩
theorem EAt_of (h : Zr w b A n c X 8) (hT : Tab w) (hn : od X = X ∧ nE X e = e) (hE : -1200 ≤ e ∧ e ≤ 4000) {q W : Nat} (hq : q ≤ 300) (hW : q + 40 = W) (f : Int) (T TK EN : Nat)
  (hF : ∀ w, Calls Tryz.prog 86 #[.int .i64 f] w (fun e' w' => e' = .returned (.iface T (.agg #[])) ∧ Below w.heap.size w w'))
  (m1 : ∀ w, (method 306 T (.agg #[]) "hairline/elem.takes").run Tryz.prog w = .ok (TK, .agg #[]) w)
  (m2 : ∀ w, (method 306 T (.agg #[]) "hairline/elem.enclose").run Tryz.prog w = .ok (EN, .agg #[]) w)
  (t1 : ∀ (args : Array Value) (w : World), (callFunc TK args).run Tryz.prog w = .ok (.enter TK args) w)
  (t2 : ∀ (args : Array Value) (w : World), (callFunc EN args).run Tryz.prog w = .ok (.enter EN args) w)
  (P R P2 R2 K : Int) (hPR : P ≤ R) (hRC : (P / 1099511627776 = P2 ∧ -(-R / 1099511627776) = R2) ∧ Si P2 8 ∧ Si R2 8)
  (hTK : ∀ w b A n c, Zr w b A n c X 8 → Calls Tryz.prog TK #[.agg #[], .agg #[.bool b, .slice A n c, .int .i64 e]] w (fun e' w' => e' = .returned (.bool true) ∧ Below w.heap.size w w'))
  (hCO : ∀ w b A n c, Zr w b A n c X 8 → Tab w → Calls Tryz.prog EN #[.agg #[], .agg #[.bool b, .slice A n c, .int .i64 e], .int .i64 (W : Nat)] w (OuE w P R W K)) :
  Calls Tryz.prog 50 #[.int .i64 f, .agg #[.bool b, .slice A n c, .int .i64 e], .int .i64 (q : Nat)] w (OuA w P2 R2 q K) := by
 obtain ⟨c1, c2⟩ := c_yes (X := X) (e := e) (by omega)
 have lo := hE.1
 have HN : Hid (od (cM X e) = X ∧ nE (cM X e) (cE e) = e) := Lib.hid (by rw [c1, c2]; exact hn)
 have HS : Hid (Si X 8) := Lib.hid h.si
 have HCO := Lib.hid hCO
 have HTK := Lib.hid hTK
 have HEN := Lib.hid hPR
 have HRC : Hid ((flI P (-(W : Int) + q) = P2 ∧ -flI (-R) (-(W : Int) + q) = R2) ∧ Si P2 8 ∧ Si R2 8) := Lib.hid (by
  have k : ∀ X : Int, flI X (-(W : Int) + q) = X / 1099511627776 := fun X => by
   rw [show -(W : Int) + q = -40 by omega]; unfold flI; rw [if_pos (by omega)]; rfl
  rw [k, k]; exact hRC)
 have HWQ : Hid ((q : Int) + 40 = (W : Int)) := Lib.hid (by omega)
 have HW : q ≤ 300 ∧ 40 ≤ W ∧ W < 341 := by omega
 clear c1 c2 hn hCO hTK hPR hRC hW hq
 go_enter Tryz.func50, Tryz.ntmps50
 go_wp2_with fail
 refine al2c fun v1 hb x_x x_r => ?_
 replace x_x := Dx.of x_x; replace x_r := Lx.of x_r
 obtain ⟨h, hT⟩ := mv2 hb h hT
 have q_x := x_x.al
 have q_r := x_r.al
 clear q_r
 skip
 with_reducible refine (hF _).mono ?_
 rintro e v2 ⟨rfl, hb1⟩
 obtain ⟨x_x, x_r, h, hT, hb⟩ := mv5 hb1 x_x x_r h hT hb
 clear hb1
 replace q_x := x_x.al
 go_wp2_with fail
 with_reducible refine (HTK.out _ _ _ _ _ h).mono ?_
 rintro e v3 ⟨rfl, hb1⟩
 obtain ⟨x_x, x_r, h, hT, hb⟩ := mv5 hb1 x_x x_r h hT hb
 clear hb1
 replace q_x := x_x.al
 go_wp2_with fail
 with_reducible refine (DNorm_any h hT 9 (by omega) (by omega)).mono ?_
 rintro e v4 ⟨A5, n5, c5, rfl, z5, hb1⟩
 obtain ⟨x_x, x_r, h, hT, hb⟩ := mv5 hb1 x_x x_r h hT hb
 clear hb1
 replace q_x := x_x.al
 rw [HN.out.1, HN.out.2] at *; replace z5 := z5.slim HS.out
 have q_x := x_x.al
 go_wp2_with fail
 clear q_x
 refine x_x.stc fun v5 hs hx => ?_
 obtain ⟨x_r, hT, z5, hb⟩ := ms4 hs ⟨by omega, hT.neD x_x, trivial, by omega⟩ x_r hT z5 hb
 replace x_x := hx; clear hx hs
 have q_x := x_x.al
 go_wp2_with fail
 rw [HWQ.out]
 skip
 with_reducible refine (HCO.out _ _ _ _ _ z5.zr hT).mono ?_
 rintro e v6 ⟨A11, n11, c11, A12, n12, c12, rfl, z11, z12, hb1⟩
 obtain ⟨x_r, hT, z5, hb⟩ := mv4 hb1 x_r hT z5 hb
 clear hb1
 go_wp2_with fail
 have l_r_v := x_r.lt
 have e_v : w.heap.size ≤ v6.heap.size := hb.size
 refine al1c fun v7 hb1 x_v => ?_
 replace x_v := Nx.of x_v
 obtain ⟨x_r, z11, z12, hb⟩ := mv4 hb1 x_r z11 z12 hb
 clear hb1
 have q_v := x_v.al
 skip
 with_reducible refine (Recast_yes z11.zr z12.zr q ⟨by omega, by omega, HEN.out⟩ (by omega) 140 (by omega) (by omega) (by omega)).mono ?_
 rintro e v8 ⟨A21, n21, c21, A22, n22, c22, rfl, z21, z22, hb1⟩
 obtain ⟨x_r, z11, z12, hb⟩ := mv4 hb1 x_r z11 z12 hb
 clear hb1
 rw [HRC.out.1.1, HRC.out.1.2] at *; replace z21 := z21.slim HRC.out.2.1; replace z22 := z22.slim HRC.out.2.2
 go_upto_region 9 with fail
 have l_r_o := x_r.lt
 have e_o : w.heap.size ≤ v8.heap.size := hb.size
 refine al1 fun v9 hb1 x_o => ?_
 replace x_o := Lx.of x_o
 obtain ⟨x_r, z21, z22, hb⟩ := mv4 hb1 x_r z21 z22 hb
 clear hb1
 have q_o := x_o.al
 have q_r := x_r.al
 go_wp2
 clear q_r
 refine x_r.st fun v10 hs hx => ?_
 obtain ⟨z21, z22, hb⟩ := ms3 hs ⟨trivial, trivial, by omega⟩ z21 z22 hb
 replace x_r := hx; clear hx hs
 have q_r := x_r.al
 skip
 refine bodyPost_ret (v := .tuple #[.agg #[.bool (ngB P2), .slice A21 n21 c21, .bool (ngB R2), .slice A22 n22 c22, .int .i64 (q : Int)], .int .i64 K, .int .i64 0]) (by simp [results, Tryz.results50, go_sem, q_r]) rfl ?_
 exact ⟨_, _, _, _, _, _, rfl, z21, z22, hb⟩
end Go.Proofs.YtdonaominffpnaaGreatDoor
