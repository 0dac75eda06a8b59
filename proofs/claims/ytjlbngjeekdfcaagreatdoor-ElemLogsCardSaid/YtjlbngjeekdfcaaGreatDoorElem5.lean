/-
 elem: the logarithms.
-/
import Derived.Test.YtjlbngjeekdfcaaGreatDoorEnum4
import Derived.Test.YtjlbngjeekdfcaaGreatDoorElem4
import Derived.Test.YtjlbngjeekdfcaaGreatDoorKcos
namespace Go.Proofs.YtjlbngjeekdfcaaGreatDoor
variable {A A2 : Option Addr} {X Y q : Int} {c c2 k k2 n n2 : Nat} {v wx : World}
set_option maxRecDepth 100000
set_option maxHeartbeats 4000000
set_option linter.unusedVariables false
open Go.RowKit
open MX (bLo bHi tA tZ xK xR xS yR yS uR uS gR gS hR hS wK wR wS vJ vKi vN vLo vHi nq Hd)
theorem Nx.new (w : World) (b : Bool) (A : Option Addr) (n : Nat) (c : Nat) (p : Bool) (B : Option Addr) (m : Nat) (d : Nat) (e : Int) : Nx (w.alloc (.cells #[.bool b, .slice A n c, .bool p, .slice B m d, .int .i64 e] 81)) w.heap.size b A n c p B m d e := heap_alloc_new w _
def NnNew (v : World) (X Y q : Int) (k k2 : Nat) (s : Value) (wx : World) : Prop :=
 ∃ g A n c A2 n2 c2, s = .pointer (some ⟨g, 0, none⟩) ∧ Nx wx g (ngB X) A n c (ngB Y) A2 n2 c2 q ∧ Zn wx A n c X k ∧ Zn wx A2 n2 c2 Y k2 ∧ v.heap.size ≤ g ∧ Below v.heap.size v wx
theorem NnNew.put {g m1 d1 m2 d2 : Nat} {p1 p2 : Bool} {B1 B2 : Option Addr} {e0 : Int} (hv : Below v.heap.size v wx) (x : Nx wx g p1 B1 m1 d1 p2 B2 m2 d2 e0) (hg : v.heap.size ≤ g) (z : Zn wx A n c X k) (z2 : Zn wx A2 n2 c2 Y k2) :
  NnNew v X Y q k k2 (.pointer (some ⟨g, 0, none⟩)) (((((wx.setCell ⟨g, 0, none⟩ (.bool (ngB X))).setCell ⟨g, 1, none⟩ (.slice A n c)).setCell ⟨g, 2, none⟩ (.bool (ngB Y))).setCell ⟨g, 3, none⟩ (.slice A2 n2 c2)).setCell ⟨g, 4, none⟩ (.int .i64 q)) :=
 x.st (F := fun u => NnNew v X Y q k k2 (.pointer (some ⟨g, 0, none⟩)) u) fun u s hx => ⟨g, _, _, _, _, _, _, rfl, hx, Ms.ms s trivial z, Ms.ms s trivial z2, hg, Ms.ms s hg hv⟩
theorem NnNew.new (hv : Below v.heap.size v wx) (z : Zn wx A n c X k) (z2 : Zn wx A2 n2 c2 Y k2) :
  NnNew v X Y q k k2 (.pointer (some ⟨wx.heap.size, 0, none⟩)) (wx.alloc (.cells #[.bool (ngB X), .slice A n c, .bool (ngB Y), .slice A2 n2 c2, .int .i64 q] 81)) :=
 ⟨wx.heap.size, _, _, _, _, _, _, rfl, Nx.new _ _ _ _ _ _ _ _ _ _, z.keep (below_alloc _ _), z2.keep (below_alloc _ _), hv.size, bthen hv (below_alloc _ _)⟩
theorem entE_Atanh : ∀ (args : Array Value) (w : World), (callFunc 143 args).run Tryz.prog w = .ok (.enter 143 args) w := enters_of Tryz.func143 (by kernel_rfl) rfl
variable {b b2 b3 b4 : Bool} {A A2 A3 A4 : Option Addr} {n c n2 c2 n3 c3 n4 c4 j j2 : Nat} {X Y U V q e : Int} {w : World}
theorem ElnOfRest_any (h : Zr w b A n c X 8) (hT : Tab w) (a : Ar X e) (h0 : 0 < X) (hl : -100 ≤ lgI X e) {W : Nat} (hW : 40 ≤ W ∧ W < 256) :
  Calls Tryz.prog 162 #[.agg #[.bool b, .slice A n c, .int .i64 e], .int .i64 (lgI X e), .int .i64 (W : Nat)] w (OuB w (rwLo 1 (uR X (e - lgI X e) W) W (W / 3 + 2) * 2) (rwHi 1 (uS X (e - lgI X e) W) W (W / 3 + 2) * 2) W 8) := by
 have s := a.sh h0 hl
 have u := u_si hW s.2.1.1 s.2.2
 have r := rw_nb (kind := 1) (n := W / 3 + 2) (w := W) u.2.1.1 (by omega) (by omega)
 have r2 := rw_nb (kind := 1) (t := uS X (e - lgI X e) W) (n := W / 3 + 2) (w := W) (by omega) (by omega) (by omega)
 have p := tw_pos W
 have hll : lgI X e ≤ 6 := a.lg.1
 have HS := Lib.hid s.1
 have HE := Lib.hid s.2.1
 have HM : Hid ((mn4 (fun x y => x - y) (bLo X (e - lgI X e) W) (bHi X (e - lgI X e) W) (twP W) (twP W) = bLo X (e - lgI X e) W - twP W ∧ mx4 (fun x y => x - y) (bLo X (e - lgI X e) W) (bHi X (e - lgI X e) W) (twP W) (twP W) = bHi X (e - lgI X e) W - twP W) ∧ Si (bLo X (e - lgI X e) W - twP W) 8 ∧ Si (bHi X (e - lgI X e) W - twP W) 8) := Lib.hid ⟨by simp only [mn4, mx4]; omega, sw_si hW.2 (by omega) (by omega), sw_si hW.2 (by omega) (by omega)⟩
 have HP : Hid ((mn4 (fun x y => x + y) (bLo X (e - lgI X e) W) (bHi X (e - lgI X e) W) (twP W) (twP W) = bLo X (e - lgI X e) W + twP W ∧ mx4 (fun x y => x + y) (bLo X (e - lgI X e) W) (bHi X (e - lgI X e) W) (twP W) (twP W) = bHi X (e - lgI X e) W + twP W) ∧ Si (bLo X (e - lgI X e) W + twP W) 8 ∧ Si (bHi X (e - lgI X e) W + twP W) 8) := Lib.hid ⟨by simp only [mn4, mx4]; omega, sw_si hW.2 (by omega) (by omega), sw_si hW.2 (by omega) (by omega)⟩
 have HD : Hid ((mn4 (fun x y => fdI (x * 2 ^ (W : Int).toNat) y) (bLo X (e - lgI X e) W - twP W) (bHi X (e - lgI X e) W - twP W) (bLo X (e - lgI X e) W + twP W) (bHi X (e - lgI X e) W + twP W) = uR X (e - lgI X e) W ∧ mx4 (fun x y => cdI (x * 2 ^ (W : Int).toNat) y) (bLo X (e - lgI X e) W - twP W) (bHi X (e - lgI X e) W - twP W) (bLo X (e - lgI X e) W + twP W) (bHi X (e - lgI X e) W + twP W) = uS X (e - lgI X e) W) ∧ Si (uR X (e - lgI X e) W) 8 ∧ Si (uS X (e - lgI X e) W) 8) := Lib.hid ⟨⟨rfl, rfl⟩, u.2.2⟩
 have HB : Hid (Si (bLo X (e - lgI X e) W) 8 ∧ Si (bHi X (e - lgI X e) W) 8) := Lib.hid ⟨sw_si hW.2 (by omega) (by omega), sw_si hW.2 (by omega) (by omega)⟩
 have HV : Hid (bLo X (e - lgI X e) W ≤ bHi X (e - lgI X e) W ∧ 0 < bLo X (e - lgI X e) W + twP W ∧ 0 ≤ uR X (e - lgI X e) W ∧ uR X (e - lgI X e) W ≤ uS X (e - lgI X e) W ∧ 2 * uS X (e - lgI X e) W ≤ twP W) := Lib.hid (by omega)
 have HQ : Hid (rwLo 1 (uR X (e - lgI X e) W) W (W / 3 + 2) ≤ rwHi 1 (uS X (e - lgI X e) W) W (W / 3 + 2) ∧ (Si (rwLo 1 (uR X (e - lgI X e) W) W (W / 3 + 2)) 8 ∧ Si (rwHi 1 (uS X (e - lgI X e) W) W (W / 3 + 2)) 8) ∧ Si (rwLo 1 (uR X (e - lgI X e) W) W (W / 3 + 2) * 2) 8 ∧ Si (rwHi 1 (uS X (e - lgI X e) W) W (W / 3 + 2) * 2) 8) := Lib.hid ⟨(MX.s_hd ⟨hW.1, by omega⟩ s.2.1.1 s.2.2 _).1.le, ⟨sw_si hW.2 (by omega) (by omega), sw_si hW.2 (by omega) (by omega)⟩, sw_si hW.2 (by omega) (by omega), sw_si hW.2 (by omega) (by omega)⟩
 have wl : wrap64 (-lgI X e) = -lgI X e := by unfold wrap64; omega
 obtain ⟨ℓ, hℓ⟩ : ∃ l, lgI X e = l := ⟨_, rfl⟩
 clear s u r r2 a p h0
 rw [hℓ] at hl hll wl HS HE HM HP HD HB HV HQ ⊢; clear hℓ
 have HBO := Lib.hid (fun w A n c (h : Zn w A n c X 9) => EballOf_any h.zr (by omega) HE.out W hW.2 HB.out)
 generalize uR X (e - ℓ) W = R1 at *
 generalize uS X (e - ℓ) W = R2 at *
 generalize bLo X (e - ℓ) W = P1 at *
 generalize bHi X (e - ℓ) W = P2 at *
 generalize e - ℓ = f at *
 obtain ⟨Q1, hQ1⟩ : ∃ l, rwLo 1 R1 W (W / 3 + 2) = l := ⟨_, rfl⟩
 obtain ⟨Q2, hQ2⟩ : ∃ l, rwHi 1 R2 W (W / 3 + 2) = l := ⟨_, rfl⟩
 rw [hQ1, hQ2] at HQ ⊢
 have HQP : Hid ((rwLo 1 R1 W (W / 3 + 2) = Q1 ∧ rwHi 1 R2 W (W / 3 + 2) = Q2) ∧ Si Q1 8 ∧ Si Q2 8) := Lib.hid ⟨⟨hQ1, hQ2⟩, HQ.out.2.1⟩; clear hQ1 hQ2
 have HPT : Hid (∀ w : World, Calls Tryz.prog 165 #[.int .i64 (W : Nat)] w (OuB w (twP W) (twP W) W 8)) := Lib.hid fun w => Eone_any W hW.2
 go_enter Tryz.func162, Tryz.ntmps162
 go_wp2_with fail
 refine al2c fun v1 hb x_x x_r => ?_
 replace x_x := Dx.of x_x; replace x_r := Nx.of x_r
 obtain ⟨h, hT⟩ := mv2 hb h hT
 have q_x := x_x.al
 have q_r := x_r.al
 clear q_r
 skip
 with_reducible refine (DShift_any h (-ℓ) hT 9 (by omega) (by omega)).mono ?_
 rintro e v2 ⟨A5, n5, c5, rfl, z5, hb1⟩
 obtain ⟨x_r, h, hT, hb⟩ := mv4 hb1 x_r h hT hb
 clear hb1
 rw [HS.out.1, HS.out.2] at *
 go_wp2_with fail
 with_reducible refine (HBO.out _ _ _ _ z5).mono ?_
 rintro e v3 ⟨A11, n11, c11, A12, n12, c12, rfl, z11, z12, hb1⟩
 obtain ⟨x_r, z5, hb⟩ := mv3 hb1 x_r z5 hb
 clear hb1
 go_wp2_with fail
 with_reducible refine (HPT.out _).mono ?_
 rintro e v4 ⟨A13, n13, c13, A14, n14, c14, rfl, z13, z14, hb1⟩
 obtain ⟨x_r, z11, z12, hb⟩ := mv4 hb1 x_r z11 z12 hb
 clear hb1
 go_upto_region 2 with fail
 have l_r_m := x_r.lt
 have e_m : w.heap.size ≤ v4.heap.size := hb.size
 refine al2 fun v5 hb1 x_m x_o => ?_
 replace x_m := Nx.of x_m; replace x_o := Nx.of x_o
 obtain ⟨x_r, z11, z12, z13, z14, hb⟩ := mv6 hb1 x_r z11 z12 z13 z14 hb
 clear hb1
 have q_m := x_m.al
 have q_o := x_o.al
 have hv := Below.refl v5.heap.size v5
 have l_r_u := x_r.lt
 have l_m_u := x_m.lt
 have l_o_u := x_o.lt
 go_cut [9] (fun s9 wx => NnNew v5 R1 R2 (W : Int) 8 8 s9 wx)
 case first =>
  go_region_held3 (fun w' => w'.cell? ⟨v4.heap.size, 0, none⟩ = some (.bool (ngB P1)) ∧ w'.cell? ⟨v4.heap.size, 1, none⟩ = some (.slice A11 n11 c11) ∧ w'.cell? ⟨v4.heap.size, 2, none⟩ = some (.bool (ngB P2)) ∧ w'.cell? ⟨v4.heap.size, 3, none⟩ = some (.slice A12 n12 c12) ∧ w'.cell? ⟨v4.heap.size, 4, none⟩ = some (.int .i64 (W : Int)) ∧ w'.cell? ⟨v4.heap.size + 1, 0, none⟩ = some (.bool (ngB (twP W))) ∧ w'.cell? ⟨v4.heap.size + 1, 1, none⟩ = some (.slice A13 n13 c13) ∧ w'.cell? ⟨v4.heap.size + 1, 2, none⟩ = some (.bool (ngB (twP W))) ∧ w'.cell? ⟨v4.heap.size + 1, 3, none⟩ = some (.slice A14 n14 c14) ∧ w'.cell? ⟨v4.heap.size + 1, 4, none⟩ = some (.int .i64 (W : Int)))
   (first | (with_reducible exact ⟨x_m.c0, x_m.c1, x_m.c2, x_m.c3, x_m.c4, x_o.c0, x_o.c1, x_o.c2, x_o.c3, x_o.c4⟩) | (with_reducible exact ⟨(x_m.alloc _).c0, (x_m.alloc _).c1, (x_m.alloc _).c2, (x_m.alloc _).c3, (x_m.alloc _).c4, (x_o.alloc _).c0, (x_o.alloc _).c1, (x_o.alloc _).c2, (x_o.alloc _).c3, (x_o.alloc _).c4⟩) | (with_reducible exact ⟨(x_m.asideN (by omega)).c0, (x_m.asideN (by omega)).c1, (x_m.asideN (by omega)).c2, (x_m.asideN (by omega)).c3, (x_m.asideN (by omega)).c4, (x_o.asideN (by omega)).c0, (x_o.asideN (by omega)).c1, (x_o.asideN (by omega)).c2, (x_o.asideN (by omega)).c3, (x_o.asideN (by omega)).c4⟩) | (with_reducible exact ⟨((x_m.alloc _).asideN (by omega)).c0, ((x_m.alloc _).asideN (by omega)).c1, ((x_m.alloc _).asideN (by omega)).c2, ((x_m.alloc _).asideN (by omega)).c3, ((x_m.alloc _).asideN (by omega)).c4, ((x_o.alloc _).asideN (by omega)).c0, ((x_o.alloc _).asideN (by omega)).c1, ((x_o.alloc _).asideN (by omega)).c2, ((x_o.alloc _).asideN (by omega)).c3, ((x_o.alloc _).asideN (by omega)).c4⟩) | go_keep)
   (first | (go_at_call 117; (with_reducible refine (Eminus_any z11.drw z12.drw z13.drw z14.drw ⟨by omega, by omega, HV.out.1⟩ (Int.le_refl _) _ _ HM.out).mono ?_); rintro e v6 ⟨A21, n21, c21, A22, n22, c22, rfl, z21, z22, hb1⟩; replace hb1 := undrew hb1; (try replace x_u := x_u.keep hb1); replace hv := bthen hv hb1; have hvs_v6 := hv.size; obtain ⟨x_r, x_m, x_o, z11, z12, z13, z14, hb⟩ := mv8 hb1 x_r x_m x_o z11 z12 z13 z14 hb; clear hb1; replace q_m := x_m.al; replace q_o := x_o.al; (try (have q_u0 := x_u.c0; have f_u0 := x_u.fr 0; have q_u1 := x_u.c1; have f_u1 := x_u.fr 1; have q_u2 := x_u.c2; have f_u2 := x_u.fr 2; have q_u3 := x_u.c3; have f_u3 := x_u.fr 3; have q_u4 := x_u.c4; have f_u4 := x_u.fr 4))) | (go_at_call 117; (with_reducible refine (Eminus_any (z11.keep (below_alloc v5 (.cells #[.bool false, .slice none 0 0, .bool false, .slice none 0 0, .int .i64 0] 81))).drw (z12.keep (below_alloc v5 (.cells #[.bool false, .slice none 0 0, .bool false, .slice none 0 0, .int .i64 0] 81))).drw (z13.keep (below_alloc v5 (.cells #[.bool false, .slice none 0 0, .bool false, .slice none 0 0, .int .i64 0] 81))).drw (z14.keep (below_alloc v5 (.cells #[.bool false, .slice none 0 0, .bool false, .slice none 0 0, .int .i64 0] 81))).drw ⟨by omega, by omega, HV.out.1⟩ (Int.le_refl _) _ _ HM.out).mono ?_); rintro e v6 ⟨A21, n21, c21, A22, n22, c22, rfl, z21, z22, hb1⟩; replace hb1 := undrew hb1; have x_u := (Nx.new v5 false none 0 0 false none 0 0 0).keep hb1; replace hb1 := bthen (below_alloc v5 (.cells #[.bool false, .slice none 0 0, .bool false, .slice none 0 0, .int .i64 0] 81)) hb1; replace hv := bthen hv hb1; have hvs_v6 := hv.size; obtain ⟨x_r, x_m, x_o, z11, z12, z13, z14, hb⟩ := mv8 hb1 x_r x_m x_o z11 z12 z13 z14 hb; clear hb1; replace q_m := x_m.al; replace q_o := x_o.al; (try (have q_u0 := x_u.c0; have f_u0 := x_u.fr 0; have q_u1 := x_u.c1; have f_u1 := x_u.fr 1; have q_u2 := x_u.c2; have f_u2 := x_u.fr 2; have q_u3 := x_u.c3; have f_u3 := x_u.fr 3; have q_u4 := x_u.c4; have f_u4 := x_u.fr 4))) | (go_at_call 163; (with_reducible refine (Eplus_any z11 z12 z13 z14 ⟨by omega, by omega, HV.out.1⟩ (Int.le_refl _) _ _ HP.out).mono ?_); rintro e v7 ⟨A23, n23, c23, A24, n24, c24, rfl, z23, z24, hb1⟩; (try replace x_u := x_u.keep hb1); replace hv := bthen hv hb1; have hvs_v7 := hv.size; obtain ⟨x_r, x_m, x_o, z11, z12, z13, z14, z21, z22⟩ := mv9 hb1 x_r x_m x_o z11 z12 z13 z14 z21 z22; replace hb := Mv.mv hb hb1; clear hb1; replace q_m := x_m.al; replace q_o := x_o.al; (try (have q_u0 := x_u.c0; have f_u0 := x_u.fr 0; have q_u1 := x_u.c1; have f_u1 := x_u.fr 1; have q_u2 := x_u.c2; have f_u2 := x_u.fr 2; have q_u3 := x_u.c3; have f_u3 := x_u.fr 3; have q_u4 := x_u.c4; have f_u4 := x_u.fr 4))) | (go_at_call 163; (with_reducible refine (Eplus_any (z11.keep (below_alloc v6 (.cells #[.bool false, .slice none 0 0, .bool false, .slice none 0 0, .int .i64 0] 81))) (z12.keep (below_alloc v6 (.cells #[.bool false, .slice none 0 0, .bool false, .slice none 0 0, .int .i64 0] 81))) (z13.keep (below_alloc v6 (.cells #[.bool false, .slice none 0 0, .bool false, .slice none 0 0, .int .i64 0] 81))) (z14.keep (below_alloc v6 (.cells #[.bool false, .slice none 0 0, .bool false, .slice none 0 0, .int .i64 0] 81))) ⟨by omega, by omega, HV.out.1⟩ (Int.le_refl _) _ _ HP.out).mono ?_); rintro e v7 ⟨A23, n23, c23, A24, n24, c24, rfl, z23, z24, hb1⟩; have x_u := (Nx.new v6 false none 0 0 false none 0 0 0).keep hb1; replace hb1 := bthen (below_alloc v6 (.cells #[.bool false, .slice none 0 0, .bool false, .slice none 0 0, .int .i64 0] 81)) hb1; replace hv := bthen hv hb1; have hvs_v7 := hv.size; obtain ⟨x_r, x_m, x_o, z11, z12, z13, z14, z21, z22⟩ := mv9 hb1 x_r x_m x_o z11 z12 z13 z14 z21 z22; replace hb := Mv.mv hb hb1; clear hb1; replace q_m := x_m.al; replace q_o := x_o.al; (try (have q_u0 := x_u.c0; have f_u0 := x_u.fr 0; have q_u1 := x_u.c1; have f_u1 := x_u.fr 1; have q_u2 := x_u.c2; have f_u2 := x_u.fr 2; have q_u3 := x_u.c3; have f_u3 := x_u.fr 3; have q_u4 := x_u.c4; have f_u4 := x_u.fr 4))) | (go_at_call 166; (with_reducible refine (Eover_any z21 z22 z23 z24 ⟨by omega, by omega, by have := HV.out.1; omega⟩ (by have := HV.out.1; omega) (by have := HV.out; omega) _ _ HD.out).mono ?_); rintro e v8 ⟨A25, n25, c25, A26, n26, c26, rfl, z25, z26, hb1⟩; (try replace x_u := x_u.keep hb1); replace hv := bthen hv hb1; have hvs_v8 := hv.size; obtain ⟨x_r, x_m, x_o, z11, z12, z13, z14, z21, z22⟩ := mv9 hb1 x_r x_m x_o z11 z12 z13 z14 z21 z22; obtain ⟨z23, z24, hb⟩ := mv3 hb1 z23 z24 hb; clear hb1; replace q_m := x_m.al; replace q_o := x_o.al; (try (have q_u0 := x_u.c0; have f_u0 := x_u.fr 0; have q_u1 := x_u.c1; have f_u1 := x_u.fr 1; have q_u2 := x_u.c2; have f_u2 := x_u.fr 2; have q_u3 := x_u.c3; have f_u3 := x_u.fr 3; have q_u4 := x_u.c4; have f_u4 := x_u.fr 4))) | (go_at_call 166; (with_reducible refine (Eover_any (z21.keep (below_alloc v7 (.cells #[.bool false, .slice none 0 0, .bool false, .slice none 0 0, .int .i64 0] 81))) (z22.keep (below_alloc v7 (.cells #[.bool false, .slice none 0 0, .bool false, .slice none 0 0, .int .i64 0] 81))) (z23.keep (below_alloc v7 (.cells #[.bool false, .slice none 0 0, .bool false, .slice none 0 0, .int .i64 0] 81))) (z24.keep (below_alloc v7 (.cells #[.bool false, .slice none 0 0, .bool false, .slice none 0 0, .int .i64 0] 81))) ⟨by omega, by omega, by have := HV.out.1; omega⟩ (by have := HV.out.1; omega) (by have := HV.out; omega) _ _ HD.out).mono ?_); rintro e v8 ⟨A25, n25, c25, A26, n26, c26, rfl, z25, z26, hb1⟩; have x_u := (Nx.new v7 false none 0 0 false none 0 0 0).keep hb1; replace hb1 := bthen (below_alloc v7 (.cells #[.bool false, .slice none 0 0, .bool false, .slice none 0 0, .int .i64 0] 81)) hb1; replace hv := bthen hv hb1; have hvs_v8 := hv.size; obtain ⟨x_r, x_m, x_o, z11, z12, z13, z14, z21, z22⟩ := mv9 hb1 x_r x_m x_o z11 z12 z13 z14 z21 z22; obtain ⟨z23, z24, hb⟩ := mv3 hb1 z23 z24 hb; clear hb1; replace q_m := x_m.al; replace q_o := x_o.al; (try (have q_u0 := x_u.c0; have f_u0 := x_u.fr 0; have q_u1 := x_u.c1; have f_u1 := x_u.fr 1; have q_u2 := x_u.c2; have f_u2 := x_u.fr 2; have q_u3 := x_u.c3; have f_u3 := x_u.fr 3; have q_u4 := x_u.c4; have f_u4 := x_u.fr 4))))
  all_goals go_wp2_with fail
  all_goals go_meet
  all_goals first | (with_reducible exact NnNew.new hv z25 z26) | (with_reducible exact NnNew.put hv x_u (by omega) z25 z26)
 obtain ⟨g9, Ax10, nx10, cx10, Ay10, ny10, cy10, rfl, x_u, z1_u, z2_u, e_u, hb1⟩ := hcut
 clear hv
 obtain ⟨x_r, x_m, x_o, z11, z12, z13, z14, hb⟩ := mv8 hb1 x_r x_m x_o z11 z12 z13 z14 hb
 clear hb1
 replace q_m := x_m.al
 replace q_o := x_o.al
 clear q_m q_o
 generalize wc = v11 at *
 have q_m := x_m.al
 have q_o := x_o.al
 have q_u := x_u.al
 go_wp2_with fail
 skip
 with_reducible refine (Ethrough_any entE_Atanh z1_u z2_u (fun X => rwLo 1 X W (W / 3 + 2)) (fun X => rwHi 1 X W (W / 3 + 2)) (W / 3 + 2) _ (by omega) Q1 Q2 HQP.out (fun w b A n c Z hZ k => KAtanh_yes k W (W / 3 + 2) (by omega) (by omega) (by have := HV.out; rcases hZ with rfl | rfl <;> omega) (by omega))).mono ?_
 rintro e v12 ⟨A31, n31, c31, A32, n32, c32, rfl, z31, z32, hb1⟩
 obtain ⟨x_r, z1_u, z2_u, hb⟩ := mv4 hb1 x_r z1_u z2_u hb
 clear hb1
 go_wp2_with fail
 with_reducible refine (Escaled_any z31 z32 ⟨by omega, by omega, HQ.out.1⟩ 2 (by omega) (Q1 * 2) (Q2 * 2) ⟨by have := HQ.out.1; omega, HQ.out.2.2⟩).mono ?_
 rintro e v13 ⟨A33, n33, c33, A34, n34, c34, rfl, z33, z34, hb1⟩
 obtain ⟨x_r, z31, z32, hb⟩ := mv4 hb1 x_r z31 z32 hb
 clear hb1
 have q_r := x_r.al
 go_wp2
 clear q_r
 refine x_r.st fun v14 hs hx => ?_
 obtain ⟨z33, z34, hb⟩ := ms3 hs ⟨trivial, trivial, by omega⟩ z33 z34 hb
 replace x_r := hx; clear hx hs
 have q_r := x_r.al
 skip
 refine bodyPost_ret (v := .agg #[.bool (ngB (Q1 * 2)), .slice A33 n33 c33, .bool (ngB (Q2 * 2)), .slice A34 n34 c34, .int .i64 (W : Int)]) (by simp [results, Tryz.results162, go_sem, q_r]) rfl ?_
 exact ⟨_, _, _, _, _, _, rfl, z33, z34, hb⟩
theorem Elog_any (h : Zr w b A n c X 8) (hT : Tab w) (a : Ar X e) (h0 : 0 < X) (hl : -100 ≤ lgI X e) {W : Nat} (hW : 40 ≤ W ∧ W < 256) :
  Calls Tryz.prog 161 #[.agg #[], .agg #[.bool b, .slice A n c, .int .i64 e], .int .i64 (W : Nat)] w (OuE w (gR X (e - lgI X e) (lgI X e) W (W / 3 + 2)) (gS X (e - lgI X e) (lgI X e) W (W / 3 + 2)) W 0) := by
 have s := a.sh h0 hl
 have hE : -4000 ≤ e ∧ e ≤ 4000 := ⟨by have := a.lo; omega, a.hi⟩
 obtain ⟨c1, c2⟩ := c_yes (X := X) hE
 have HLG : Hid (lgI (cM X e) (cE e) = lgI X e) := Lib.hid (by rw [c1, c2])
 have lg6 := a.lg.1
 have k := ln_k hW.1 hW.2 (K := lgI X e) ⟨hl, by omega⟩
 have p := tw_pos W
 have ln := MX.ln_bd hW.2
 have sn := S_nb (n := W / 3 + 2) hW s.2.1.1 s.2.2 (by omega)
 have HLR := Lib.hid (fun w b A n c (h : Zr w b A n c X 8) hT => ElnOfRest_any h hT a h0 hl hW)
 have HLN := Lib.hid (fun w => Eln2_any (w := w) W hW.2 (ln_si hW.2))
 obtain ⟨S1, hS1⟩ : ∃ s, rwLo 1 (uR X (e - lgI X e) W) W (W / 3 + 2) * 2 = s := ⟨_, rfl⟩
 obtain ⟨S2, hS2⟩ : ∃ s, rwHi 1 (uS X (e - lgI X e) W) W (W / 3 + 2) * 2 = s := ⟨_, rfl⟩
 have hSS : 0 ≤ S1 ∧ S1 ≤ S2 ∧ S2 ≤ 840 * twP W := by omega
 have hkb : -(300 * twP W) ≤ min (lnA W * lgI X e) (lnZ W * lgI X e) ∧ max (lnA W * lgI X e) (lnZ W * lgI X e) ≤ 300 * twP W := ln_kb hW.1 hW.2 ⟨hl, by omega⟩
 obtain ⟨M1, hM1⟩ : ∃ s, min (lnA W * lgI X e) (lnZ W * lgI X e) = s := ⟨_, rfl⟩
 obtain ⟨M2, hM2⟩ : ∃ s, max (lnA W * lgI X e) (lnZ W * lgI X e) = s := ⟨_, rfl⟩
 have hMM : M1 ≤ M2 := by omega
 rw [hM1, hM2] at hkb
 have HM : Hid ((min (lnA W * lgI X e) (lnZ W * lgI X e) = M1 ∧ max (lnA W * lgI X e) (lnZ W * lgI X e) = M2) ∧ Si M1 8 ∧ Si M2 8) := Lib.hid ⟨⟨hM1, hM2⟩, sw_si hW.2 (by omega) (by omega), sw_si hW.2 (by omega) (by omega)⟩
 have HG : Hid (gR X (e - lgI X e) (lgI X e) W (W / 3 + 2) = S1 + M1 ∧ gS X (e - lgI X e) (lgI X e) W (W / 3 + 2) = S2 + M2) := Lib.hid (by rw [← hS1, ← hS2, ← hM1, ← hM2]; exact ⟨rfl, rfl⟩)
 have HP : Hid ((mn4 (fun x y => x + y) S1 S2 M1 M2 = S1 + M1 ∧ mx4 (fun x y => x + y) S1 S2 M1 M2 = S2 + M2) ∧ Si (S1 + M1) 8 ∧ Si (S2 + M2) 8) := Lib.hid ⟨by simp only [mn4, mx4]; omega, sw_si hW.2 (by omega) (by omega), sw_si hW.2 (by omega) (by omega)⟩
 have HV : Hid (S1 ≤ S2 ∧ lnA W ≤ lnZ W ∧ M1 ≤ M2) := Lib.hid ⟨hSS.2.1, ln.2.2.1, hMM⟩
 rw [HG.out.1, HG.out.2]
 rw [hS1, hS2] at HLR
 obtain ⟨ℓ, hℓ⟩ : ∃ l, lgI X e = l := ⟨_, rfl⟩
 clear s hE c1 c2 k p ln sn a h0 hS1 hS2 hSS hkb hM1 hM2 HG hMM
 rw [hℓ] at HLG HLR HM lg6 hl; clear hℓ
 generalize lnA W = L1 at *
 generalize lnZ W = L2 at *
 go_enter Tryz.func161, Tryz.ntmps161
 go_wp2_with fail
 refine al3c fun v1 hb _ x_x x_r => ?_
 replace x_x := Dx.of x_x; replace x_r := Nx.of x_r
 obtain ⟨h, hT⟩ := mv2 hb h hT
 have q_x := x_x.al
 have q_r := x_r.al
 clear q_r
 skip
 with_reducible refine (DLog_any h (by omega)).mono ?_
 rintro e v2 ⟨rfl, hb1⟩
 obtain ⟨x_x, x_r, h, hT, hb⟩ := mv5 hb1 x_x x_r h hT hb
 clear hb1
 replace q_x := x_x.al
 rw [HLG.out]
 go_wp2_with fail
 with_reducible refine (HLR.out _ _ _ _ _ h hT).mono ?_
 rintro e v3 ⟨A11, n11, c11, A12, n12, c12, rfl, z11, z12, hb1⟩
 obtain ⟨x_x, x_r, h, hT, hb⟩ := mv5 hb1 x_x x_r h hT hb
 clear hb1
 replace q_x := x_x.al
 go_wp2_with fail
 with_reducible refine (HLN.out _).mono ?_
 rintro e v4 ⟨A7, n7, c7, A8, n8, c8, rfl, z7, z8, hb1⟩
 obtain ⟨x_r, z11, z12, hb⟩ := mv4 hb1 x_r z11 z12 hb
 clear hb1
 go_wp2_with fail
 with_reducible refine (Escaled_any z7 z8 ⟨by omega, by omega, HV.out.2.1⟩ ℓ (by omega) M1 M2 HM.out).mono ?_
 rintro e v5 ⟨A13, n13, c13, A14, n14, c14, rfl, z13, z14, hb1⟩
 obtain ⟨x_r, z11, z12, z7, z8, hb⟩ := mv6 hb1 x_r z11 z12 z7 z8 hb
 clear hb1
 go_wp2_with fail
 with_reducible refine (Eplus_any z11 z12 z13 z14 ⟨by omega, by omega, HV.out.1⟩ HV.out.2.2 _ _ HP.out).mono ?_
 rintro e v6 ⟨A15, n15, c15, A16, n16, c16, rfl, z15, z16, hb1⟩
 obtain ⟨x_r, z11, z12, z13, z14, hb⟩ := mv6 hb1 x_r z11 z12 z13 z14 hb
 clear hb1
 have q_r := x_r.al
 go_wp2
 clear q_r
 refine x_r.st fun v7 hs hx => ?_
 obtain ⟨z15, z16, hb⟩ := ms3 hs ⟨trivial, trivial, by omega⟩ z15 z16 hb
 replace x_r := hx; clear hx hs
 have q_r := x_r.al
 skip
 refine bodyPost_ret (v := .tuple #[.agg #[.bool (ngB (S1 + M1)), .slice A15 n15 c15, .bool (ngB (S2 + M2)), .slice A16 n16 c16, .int .i64 (W : Int)], .int .i64 0]) (by simp [results, Tryz.results161, go_sem, q_r]) rfl ?_
 exact ⟨_, _, _, _, _, _, rfl, z15, z16, hb⟩
theorem Elog2_any (h : Zr w b A n c X 8) (hT : Tab w) (a : Ar X e) (h0 : 0 < X) (hl : -100 ≤ lgI X e) {W : Nat} (hW : 40 ≤ W ∧ W < 256) :
  Calls Tryz.prog 167 #[.agg #[], .agg #[.bool b, .slice A n c, .int .i64 e], .int .i64 (W : Nat)] w (OuE w (hR X (e - lgI X e) (lgI X e) W (W / 3 + 2)) (hS X (e - lgI X e) (lgI X e) W (W / 3 + 2)) W 0) := by
 have s := a.sh h0 hl
 have hE : -4000 ≤ e ∧ e ≤ 4000 := ⟨by have := a.lo; omega, a.hi⟩
 obtain ⟨c1, c2⟩ := c_yes (X := X) hE
 have HLG : Hid (lgI (cM X e) (cE e) = lgI X e) := Lib.hid (by rw [c1, c2])
 have lg6 := a.lg.1
 have k := ln_k hW.1 hW.2 (K := lgI X e) ⟨hl, by omega⟩
 have p := tw_pos W
 have ln := MX.ln_bd hW.2
 have sn := S_nb (n := W / 3 + 2) hW s.2.1.1 s.2.2 (by omega)
 have HLR := Lib.hid (fun w b A n c (h : Zr w b A n c X 8) hT => ElnOfRest_any h hT a h0 hl hW)
 have HLN := Lib.hid (fun w => Eln2_any (w := w) W hW.2 (ln_si hW.2))
 obtain ⟨S1, hS1⟩ : ∃ s, rwLo 1 (uR X (e - lgI X e) W) W (W / 3 + 2) * 2 = s := ⟨_, rfl⟩
 obtain ⟨S2, hS2⟩ : ∃ s, rwHi 1 (uS X (e - lgI X e) W) W (W / 3 + 2) * 2 = s := ⟨_, rfl⟩
 have hSS : 0 ≤ S1 ∧ S1 ≤ S2 ∧ S2 ≤ 840 * twP W := by omega
 have hq := q_nb hW hSS
 have hkb : -(100 * twP W) ≤ twP W * lgI X e ∧ twP W * lgI X e ≤ 100 * twP W := by have := Int.mul_le_mul_of_nonneg_left (show lgI X e ≤ 100 by omega) (Int.le_of_lt p); have := Int.mul_le_mul_of_nonneg_left (show -100 ≤ lgI X e by omega) (Int.le_of_lt p); omega
 obtain ⟨M1, hM1⟩ : ∃ s, mn4 (fun x y => fdI (x * 2 ^ (W : Int).toNat) y) S1 S2 (lnA W) (lnZ W) = s := ⟨_, rfl⟩
 obtain ⟨M2, hM2⟩ : ∃ s, mx4 (fun x y => cdI (x * 2 ^ (W : Int).toNat) y) S1 S2 (lnA W) (lnZ W) = s := ⟨_, rfl⟩
 obtain ⟨T, hT2⟩ : ∃ s, twP W * lgI X e = s := ⟨_, rfl⟩
 rw [hM1, hM2] at hq
 rw [hT2] at hkb
 have HM : Hid ((mn4 (fun x y => fdI (x * 2 ^ (W : Int).toNat) y) S1 S2 (lnA W) (lnZ W) = M1 ∧ mx4 (fun x y => cdI (x * 2 ^ (W : Int).toNat) y) S1 S2 (lnA W) (lnZ W) = M2) ∧ Si M1 8 ∧ Si M2 8) := Lib.hid ⟨⟨hM1, hM2⟩, sw_si hW.2 (by omega) (by omega), sw_si hW.2 (by omega) (by omega)⟩
 have HG : Hid (hR X (e - lgI X e) (lgI X e) W (W / 3 + 2) = M1 + T ∧ hS X (e - lgI X e) (lgI X e) W (W / 3 + 2) = M2 + T) := Lib.hid (by rw [← hM1, ← hM2, ← hT2, ← hS1, ← hS2]; exact ⟨rfl, rfl⟩)
 have HP : Hid ((mn4 (fun x y => x + y) M1 M2 T T = M1 + T ∧ mx4 (fun x y => x + y) M1 M2 T T = M2 + T) ∧ Si (M1 + T) 8 ∧ Si (M2 + T) 8) := Lib.hid ⟨by simp only [mn4, mx4]; omega, sw_si hW.2 (by omega) (by omega), sw_si hW.2 (by omega) (by omega)⟩
 have HK : Hid ((min (twP W * lgI X e) (twP W * lgI X e) = T ∧ max (twP W * lgI X e) (twP W * lgI X e) = T) ∧ Si T 8 ∧ Si T 8) := Lib.hid ⟨by omega, sw_si hW.2 (by omega) (by omega), sw_si hW.2 (by omega) (by omega)⟩
 have HV : Hid (S1 ≤ S2 ∧ lnA W ≤ lnZ W ∧ M1 ≤ M2 ∧ 0 < lnA W ∧ 0 < lnZ W) := Lib.hid ⟨hSS.2.1, ln.2.2.1, hq.2.1, by have := MX.tw_big hW.1; omega, by have := MX.tw_big hW.1; omega⟩
 have HPT : Hid (∀ w : World, Calls Tryz.prog 165 #[.int .i64 (W : Nat)] w (OuB w (twP W) (twP W) W 8)) := Lib.hid fun w => Eone_any W hW.2
 rw [HG.out.1, HG.out.2]
 rw [hS1, hS2] at HLR
 obtain ⟨ℓ, hℓ⟩ : ∃ l, lgI X e = l := ⟨_, rfl⟩
 clear s hE c1 c2 k p ln sn a h0 hS1 hS2 hSS hkb hM1 hM2 HG hq hT2
 rw [hℓ] at HLG HLR HK lg6 hl; clear hℓ
 generalize lnA W = L1 at *
 generalize lnZ W = L2 at *
 go_enter Tryz.func167, Tryz.ntmps167
 go_wp2_with fail
 refine al3c fun v1 hb _ x_x x_r => ?_
 replace x_x := Dx.of x_x; replace x_r := Nx.of x_r
 obtain ⟨h, hT⟩ := mv2 hb h hT
 have q_x := x_x.al
 have q_r := x_r.al
 clear q_r
 skip
 with_reducible refine (DLog_any h (by omega)).mono ?_
 rintro e v2 ⟨rfl, hb1⟩
 obtain ⟨x_x, x_r, h, hT, hb⟩ := mv5 hb1 x_x x_r h hT hb
 clear hb1
 replace q_x := x_x.al
 rw [HLG.out]
 go_wp2_with fail
 with_reducible refine (HLR.out _ _ _ _ _ h hT).mono ?_
 rintro e v3 ⟨A11, n11, c11, A12, n12, c12, rfl, z11, z12, hb1⟩
 obtain ⟨x_x, x_r, h, hT, hb⟩ := mv5 hb1 x_x x_r h hT hb
 clear hb1
 replace q_x := x_x.al
 go_wp2_with fail
 with_reducible refine (HLN.out _).mono ?_
 rintro e v4 ⟨A7, n7, c7, A8, n8, c8, rfl, z7, z8, hb1⟩
 obtain ⟨x_r, z11, z12, hb⟩ := mv4 hb1 x_r z11 z12 hb
 clear hb1
 go_wp2_with fail
 with_reducible refine (Eover_any z11 z12 z7 z8 ⟨by omega, by omega, HV.out.1⟩ HV.out.2.1 (by have := HV.out; omega) M1 M2 HM.out).mono ?_
 rintro e v5 ⟨A13, n13, c13, A14, n14, c14, rfl, z13, z14, hb1⟩
 obtain ⟨x_r, z11, z12, z7, z8, hb⟩ := mv6 hb1 x_r z11 z12 z7 z8 hb
 clear hb1
 go_wp2_with fail
 with_reducible refine (HPT.out _).mono ?_
 rintro e v6 ⟨A17, n17, c17, A18, n18, c18, rfl, z17, z18, hb1⟩
 obtain ⟨x_r, z13, z14, hb⟩ := mv4 hb1 x_r z13 z14 hb
 clear hb1
 go_wp2_with fail
 with_reducible refine (Escaled_any z17 z18 ⟨by omega, by omega, Int.le_refl _⟩ ℓ (by omega) T T HK.out).mono ?_
 rintro e v7 ⟨A19, n19, c19, A20, n20, c20, rfl, z19, z20, hb1⟩
 obtain ⟨x_r, z13, z14, z17, z18, hb⟩ := mv6 hb1 x_r z13 z14 z17 z18 hb
 clear hb1
 go_wp2_with fail
 with_reducible refine (Eplus_any z13 z14 z19 z20 ⟨by omega, by omega, HV.out.2.2.1⟩ (Int.le_refl _) _ _ HP.out).mono ?_
 rintro e v8 ⟨A15, n15, c15, A16, n16, c16, rfl, z15, z16, hb1⟩
 obtain ⟨x_r, z13, z14, z19, z20, hb⟩ := mv6 hb1 x_r z13 z14 z19 z20 hb
 clear hb1
 have q_r := x_r.al
 go_wp2
 clear q_r
 refine x_r.st fun v9 hs hx => ?_
 obtain ⟨z15, z16, hb⟩ := ms3 hs ⟨trivial, trivial, by omega⟩ z15 z16 hb
 replace x_r := hx; clear hx hs
 have q_r := x_r.al
 skip
 refine bodyPost_ret (v := .tuple #[.agg #[.bool (ngB (M1 + T)), .slice A15 n15 c15, .bool (ngB (M2 + T)), .slice A16 n16 c16, .int .i64 (W : Int)], .int .i64 0]) (by simp [results, Tryz.results167, go_sem, q_r]) rfl ?_
 exact ⟨_, _, _, _, _, _, rfl, z15, z16, hb⟩
end Go.Proofs.YtjlbngjeekdfcaaGreatDoor
