/-
 elem: Exp2.
-/
import Derived.Test.YtdonaominffpnaaGreatDoorElem2
import Derived.Test.YtdonaominffpnaaGreatDoorKexp
import Derived.Shelf.Abstract
import Derived.Test.YtdonaominffpnaaGreatDoorPg
import Derived.Deep.DeepCutAuto
namespace Go.Proofs.YtdonaominffpnaaGreatDoor
set_option maxRecDepth 100000
set_option maxHeartbeats 4000000
set_option linter.unusedVariables false
open Go.RowKit
variable {b b2 b3 b4 : Bool} {A A2 A3 A4 : Option Addr} {n c n2 c2 n3 c3 n4 c4 j j2 : Nat} {X Y U V q e : Int} {w : World}
def OuE (w : World) (X Y q K : Int) (e : Ending) (w' : World) : Prop := ∃ A n c A2 n2 c2, e = .returned (.tuple #[.agg #[.bool (ngB X), .slice A n c, .bool (ngB Y), .slice A2 n2 c2, .int .i64 q], .int .i64 K]) ∧ Zn w' A n c X 8 ∧ Zn w' A2 n2 c2 Y 8 ∧ Below w.heap.size w w'
theorem entE_Exp : ∀ (args : Array Value) (w : World), (callFunc 212 args).run Tryz.prog w = .ok (.enter 212 args) w := enters_of Tryz.func212 (by kernel_rfl) rfl
theorem Eexponential_any (h : Zn w A n c X 8) (h2 : Zn w A2 n2 c2 Y 8) {W : Nat} (hW : 40 ≤ W ∧ W < 341) (hv : 0 ≤ X ∧ X ≤ Y ∧ Y ≤ twP W) (P R : Int) (hP : rwLo 0 X W (W / 4 + 10) = P ∧ rwHi 0 Y W (W / 4 + 10) = R) :
  Calls Tryz.prog 203 #[.agg #[.bool (ngB X), .slice A n c, .bool (ngB Y), .slice A2 n2 c2, .int .i64 (W : Nat)]] w (OuB w P R W 8) := by
 have HP : Hid ((rwLo 0 X W (W / 4 + 10) = P ∧ rwHi 0 Y W (W / 4 + 10) = R) ∧ Si P 8 ∧ Si R 8) := Lib.hid ⟨hP, by rw [← hP.1, ← hP.2]; exact ⟨(rw_sw (by omega) (by omega) hW.2 (by omega)).1, (rw_sw (by omega) (by omega) hW.2 (by omega)).2⟩⟩
 have HV : Hid ((0 ≤ X ∧ 2 * X ≤ 2 * twP W) ∧ (0 ≤ Y ∧ 2 * Y ≤ 2 * twP W)) := Lib.hid (by omega)
 clear hP hv
 go_enter Tryz.func203, Tryz.ntmps203
 go_wp2_with fail
 refine al2c fun v1 hb x_a x_r => ?_
 replace x_a := Nx.of x_a; replace x_r := Nx.of x_r
 obtain ⟨h, h2⟩ := mv2 hb h h2
 have q_a := x_a.al
 have q_r := x_r.al
 clear q_r
 go_wp2_with fail
 skip
 with_reducible refine (Ethrough_any entE_Exp h h2 (fun X => rwLo 0 X W (W / 4 + 10)) (fun X => rwHi 0 X W (W / 4 + 10)) (W / 4 + 10) _ (by omega) P R HP.out (fun w b A n c Z hZ k => KExp_yes k W (W / 4 + 10) (by omega) (by omega) (by have := HV.out; rcases hZ with rfl | rfl <;> omega) (by omega))).mono ?_
 rintro e v2 ⟨A5, n5, c5, A6, n6, c6, rfl, z5, z6, hb1⟩
 obtain ⟨x_r, h, h2, hb⟩ := mv4 hb1 x_r h h2 hb
 clear hb1
 have q_r := x_r.al
 go_wp2
 clear q_r
 refine x_r.st fun v3 hs hx => ?_
 obtain ⟨h, h2, z5, z6, hb⟩ := ms5 hs ⟨trivial, trivial, trivial, trivial, by omega⟩ h h2 z5 z6 hb
 replace x_r := hx; clear hx hs
 have q_r := x_r.al
 skip
 refine bodyPost_ret (v := .agg #[.bool (ngB P), .slice A5 n5 c5, .bool (ngB R), .slice A6 n6 c6, .int .i64 (W : Int)]) (by simp [results, Tryz.results203, go_sem, q_r]) rfl ?_
 exact ⟨_, _, _, _, _, _, rfl, z5, z6, hb⟩
theorem Eexp_one (h : Zr w b A n c X 8) (hX : X = 1) (he : e = 0) {W : Nat} (hW : 40 ≤ W ∧ W < 341) (K : Int) (hK : K = 1) :
  Calls Tryz.prog 199 #[.agg #[], .agg #[.bool b, .slice A n c, .int .i64 e], .int .i64 (W : Nat)] w (OuE w (rwLo 0 (twP W - lnZ W) W (W / 4 + 10)) (rwHi 0 (twP W - lnA W) W (W / 4 + 10)) W K) := by
 have ln := (ln_in hW.2).2
 have hp := tw_big hW.1
 have o : (bLo X e W = twP W ∧ bHi X e W = twP W) ∧ Si (bLo X e W) 8 ∧ Si (bHi X e W) 8 := by subst hX he; exact one_is hW.2
 have HBO := Lib.hid (fun w (h : Zr w b A n c X 8) => EballOf_any h (by omega) (show -4000 ≤ e ∧ e ≤ 4000 by omega) W hW.2 o.2)
 have HLN := Lib.hid (fun w => Eln2_any (w := w) W hW.2 (ln_si hW.2))
 have HN : Hid (ngB (bLo X e W) = false) := Lib.hid (by rw [o.1.1]; unfold ngB; simp; omega)
 have HK : Hid (bLo X e W / lnZ W = K ∧ 0 < lnZ W) := Lib.hid ⟨by rw [o.1.1, hK]; exact dv_one (by omega) (by omega) (by omega), by omega⟩
 obtain ⟨M1, hM1⟩ : ∃ m, lnA W = m := ⟨_, rfl⟩
 obtain ⟨M2, hM2⟩ : ∃ m, lnZ W = m := ⟨_, rfl⟩
 have HM : Hid ((min (lnA W * K) (lnZ W * K) = M1 ∧ max (lnA W * K) (lnZ W * K) = M2) ∧ Si M1 8 ∧ Si M2 8) := Lib.hid ⟨by subst hK; omega, by rw [← hM1, ← hM2]; exact ln_si hW.2⟩
 have HR : Hid ((mn4 (fun x y => x - y) (bLo X e W) (bHi X e W) M1 M2 = twP W - lnZ W ∧ mx4 (fun x y => x - y) (bLo X e W) (bHi X e W) M1 M2 = twP W - lnA W) ∧ Si (twP W - lnZ W) 8 ∧ Si (twP W - lnA W) 8) := Lib.hid ⟨by rw [o.1.1, o.1.2]; simp only [mn4, mx4]; omega, sw_si hW.2 (by omega) (by omega), sw_si hW.2 (by omega) (by omega)⟩
 have HV : Hid (bLo X e W ≤ bHi X e W ∧ lnA W ≤ lnZ W ∧ M1 ≤ M2 ∧ (0 ≤ twP W - lnZ W ∧ twP W - lnZ W ≤ twP W - lnA W ∧ twP W - lnA W ≤ twP W) ∧ -1000000000 ≤ K ∧ K ≤ 1000000000) := Lib.hid ⟨by omega, by omega, by omega, by omega, by omega, by omega⟩
 clear ln hp o hM1 hM2 hX he hK
 generalize bLo X e W = P1 at *
 generalize bHi X e W = P2 at *
 obtain ⟨R1, hR1⟩ : ∃ m, twP W - lnZ W = m := ⟨_, rfl⟩
 obtain ⟨R2, hR2⟩ : ∃ m, twP W - lnA W = m := ⟨_, rfl⟩
 rw [hR1, hR2] at HR HV ⊢; clear hR1 hR2
 generalize lnA W = L1 at *
 generalize lnZ W = L2 at *
 go_enter Tryz.func199, Tryz.ntmps199
 go_wp2_with fail
 refine al3c fun v1 hb _ x_d x_r => ?_
 replace x_d := Dx.of x_d; replace x_r := Nx.of x_r
 replace h := Mv.mv h hb
 have q_d := x_d.al
 have q_r := x_r.al
 clear q_r
 go_wp2_with fail
 skip
 with_reducible refine (HBO.out _ h).mono ?_
 rintro e v2 ⟨A5, n5, c5, A6, n6, c6, rfl, z5, z6, hb1⟩
 obtain ⟨x_r, h, hb⟩ := mv3 hb1 x_r h hb
 clear hb1
 rw [HN.out]
 go_wp2_with fail
 with_reducible refine (HLN.out _).mono ?_
 rintro e v3 ⟨A7, n7, c7, A8, n8, c8, rfl, z7, z8, hb1⟩
 obtain ⟨x_r, h, z5, z6, hb⟩ := mv5 hb1 x_r h z5 z6 hb
 clear hb1
 go_wp2_with fail
 have l_r_p := x_r.lt
 have e_p : w.heap.size ≤ v3.heap.size := hb.size
 refine al3c fun v4 hb1 x_p x_l x_k => ?_
 replace x_p := Nx.of x_p; replace x_l := Nx.of x_l; replace x_k := Bx.of x_k
 obtain ⟨x_r, h, z5, z6, z7, z8, hb⟩ := mv7 hb1 x_r h z5 z6 z7 z8 hb
 clear hb1
 have q_p := x_p.al
 have q_l := x_l.al
 have q_k := x_k.al
 skip
 with_reducible refine (Edown_any z5 z8 HN.out.symm HK.out.2 (by rw [HK.out.1]; exact HV.out.2.2.2.2)).mono ?_
 rintro e v5 ⟨rfl, hb1⟩
 obtain ⟨x_r, x_p, x_l, h, z5, z6, z7, z8, hb⟩ := mv9 hb1 x_r x_p x_l h z5 z6 z7 z8 hb
 clear hb1
 replace q_p := x_p.al
 replace q_l := x_l.al
 rw [HK.out.1]
 rw [← HN.out] at x_p
 replace q_p := x_p.al
 go_wp2_with fail
 have q_r := x_r.al
 go_region_held3 (fun w' => w'.cell? ⟨v3.heap.size, 0, none⟩ = some (.bool (ngB P1)) ∧ w'.cell? ⟨v3.heap.size, 1, none⟩ = some (.slice A5 n5 c5) ∧ w'.cell? ⟨v3.heap.size, 2, none⟩ = some (.bool (ngB P2)) ∧ w'.cell? ⟨v3.heap.size, 3, none⟩ = some (.slice A6 n6 c6) ∧ w'.cell? ⟨v3.heap.size, 4, none⟩ = some (.int .i64 (W : Int)) ∧ w'.cell? ⟨v3.heap.size + 1, 0, none⟩ = some (.bool (ngB L1)) ∧ w'.cell? ⟨v3.heap.size + 1, 1, none⟩ = some (.slice A7 n7 c7) ∧ w'.cell? ⟨v3.heap.size + 1, 2, none⟩ = some (.bool (ngB L2)) ∧ w'.cell? ⟨v3.heap.size + 1, 3, none⟩ = some (.slice A8 n8 c8) ∧ w'.cell? ⟨v3.heap.size + 1, 4, none⟩ = some (.int .i64 (W : Int)))
  (first | (with_reducible exact ⟨x_p.c0, x_p.c1, x_p.c2, x_p.c3, x_p.c4, x_l.c0, x_l.c1, x_l.c2, x_l.c3, x_l.c4⟩) | (with_reducible exact ⟨(x_p.asideN (by omega)).c0, (x_p.asideN (by omega)).c1, (x_p.asideN (by omega)).c2, (x_p.asideN (by omega)).c3, (x_p.asideN (by omega)).c4, (x_l.asideN (by omega)).c0, (x_l.asideN (by omega)).c1, (x_l.asideN (by omega)).c2, (x_l.asideN (by omega)).c3, (x_l.asideN (by omega)).c4⟩) | (with_reducible exact ⟨((x_p.asideN (by omega)).asideN (by omega)).c0, ((x_p.asideN (by omega)).asideN (by omega)).c1, ((x_p.asideN (by omega)).asideN (by omega)).c2, ((x_p.asideN (by omega)).asideN (by omega)).c3, ((x_p.asideN (by omega)).asideN (by omega)).c4, ((x_l.asideN (by omega)).asideN (by omega)).c0, ((x_l.asideN (by omega)).asideN (by omega)).c1, ((x_l.asideN (by omega)).asideN (by omega)).c2, ((x_l.asideN (by omega)).asideN (by omega)).c3, ((x_l.asideN (by omega)).asideN (by omega)).c4⟩) | go_keep)
  (first | (go_at_call 205; (with_reducible refine (Escaled_any z7.drw z8.drw ⟨by omega, by omega, HV.out.2.1⟩ K HV.out.2.2.2.2 M1 M2 HM.out).mono ?_); rintro e v6 ⟨A9, n9, c9, A10, n10, c10, rfl, z9, z10, hb1⟩; replace hb1 := undrew hb1; obtain ⟨x_r, x_p, x_l, h, z5, z6, z7, z8, hb⟩ := mv9 hb1 x_r x_p x_l h z5 z6 z7 z8 hb; clear hb1; replace q_r := x_r.al; replace q_p := x_p.al; replace q_l := x_l.al) | (go_at_call 204; (with_reducible refine (Eminus_any z5 z6 z9 z10 ⟨by omega, by omega, HV.out.1⟩ HV.out.2.2.1 R1 R2 HR.out).mono ?_); rintro e v7 ⟨A11, n11, c11, A12, n12, c12, rfl, z11, z12, hb1⟩; obtain ⟨x_r, x_p, x_l, h, z5, z6, z7, z8, z9⟩ := mv9 hb1 x_r x_p x_l h z5 z6 z7 z8 z9; obtain ⟨z10, hb⟩ := mv2 hb1 z10 hb; clear hb1; replace q_r := x_r.al; replace q_p := x_p.al; replace q_l := x_l.al) | (go_at_call 203; (with_reducible refine (Eexponential_any z11 z12 hW HV.out.2.2.2.1 _ _ ⟨rfl, rfl⟩).mono ?_); rintro e v8 ⟨A13, n13, c13, A14, n14, c14, rfl, z13, z14, hb1⟩; obtain ⟨x_r, x_p, x_l, h, z5, z6, z7, z8, z9⟩ := mv9 hb1 x_r x_p x_l h z5 z6 z7 z8 z9; obtain ⟨z10, z11, z12, hb⟩ := mv4 hb1 z10 z11 z12 hb; clear hb1; replace q_r := x_r.al; replace q_p := x_p.al; replace q_l := x_l.al))
 go_wp2
 clear q_r q_p q_l
 refine x_r.st fun v9 hs hx => ?_
 obtain ⟨x_p, x_l, h, z5, z6, z7, z8, z9, z10⟩ := ms9 hs ⟨by omega, by omega, trivial, trivial, trivial, trivial, trivial, trivial, trivial⟩ x_p x_l h z5 z6 z7 z8 z9 z10
 obtain ⟨z11, z12, z13, z14, hb⟩ := ms5 hs ⟨trivial, trivial, trivial, trivial, by omega⟩ z11 z12 z13 z14 hb
 replace x_r := hx; clear hx hs
 have q_r := x_r.al
 have q_p := x_p.al
 have q_l := x_l.al
 skip
 refine bodyPost_ret (v := .tuple #[.agg #[.bool (ngB (rwLo 0 R1 W (W / 4 + 10))), .slice A13 n13 c13, .bool (ngB (rwHi 0 R2 W (W / 4 + 10))), .slice A14 n14 c14, .int .i64 (W : Int)], .int .i64 K]) (by simp [results, Tryz.results199, go_sem, q_r]) rfl ?_
 exact ⟨_, _, _, _, _, _, rfl, z13, z14, hb⟩
end Go.Proofs.YtdonaominffpnaaGreatDoor
namespace Go.Proofs.YtdonaominffpnaaGreatDoor
variable {A : Option Addr} {X e : Int} {c k n : Nat} {v wx : World}
set_option maxRecDepth 100000
set_option maxHeartbeats 4000000
set_option linter.unusedVariables false
open Go.RowKit
def DxNew (v : World) (X e : Int) (k : Nat) (s : Value) (wx : World) : Prop :=
 ∃ g A n c, s = .pointer (some ⟨g, 0, none⟩) ∧ Dx wx g (ngB X) A n c e ∧ Zn wx A n c X k ∧ v.heap.size ≤ g ∧ Below v.heap.size v wx
theorem DxNew.put {g n0 c0 : Nat} {b0 : Bool} {A0 : Option Addr} {e0 : Int} (hv : Below v.heap.size v wx) (x : Dx wx g b0 A0 n0 c0 e0) (hg : v.heap.size ≤ g) (z : Zn wx A n c X k) :
  DxNew v X e k (.pointer (some ⟨g, 0, none⟩)) (((wx.setCell ⟨g, 0, none⟩ (.bool (ngB X))).setCell ⟨g, 1, none⟩ (.slice A n c)).setCell ⟨g, 2, none⟩ (.int .i64 e)) :=
 ⟨g, A, n, c, rfl, x.put _ _ _ _ _, z.putD x, hg, put_belowD hv hg _ _ _⟩
theorem DxNew.new (hv : Below v.heap.size v wx) (z : Zn wx A n c X k) :
  DxNew v X e k (.pointer (some ⟨wx.heap.size, 0, none⟩)) (wx.alloc (.cells #[.bool (ngB X), .slice A n c, .int .i64 e] 55)) :=
 ⟨wx.heap.size, A, n, c, rfl, Dx.new _ _ _ _ _ _, z.keep (below_alloc _ _), hv.size, bthen hv (below_alloc _ _)⟩
variable {b b2 b3 b4 : Bool} {A A2 A3 A4 : Option Addr} {n c n2 c2 n3 c3 n4 c4 j j2 : Nat} {X Y U V q e : Int} {w : World}
theorem Eexp2_whole (h : Zr w b A n c X 8) (hT : Tab w) (he : 0 ≤ e ∧ e ≤ 100) (K : Int) (hK : X * 2 ^ e.toNat = K) (hk : -1000 ≤ K ∧ K ≤ 1000) {W : Nat} (hW : 40 ≤ W ∧ W < 341) (R1 R2 : Int) (hR : R1 = 0 ∧ R2 = 0) :
  Calls Tryz.prog 244 #[.agg #[], .agg #[.bool b, .slice A n c, .int .i64 e], .int .i64 (W : Nat)] w (OuE w (rwLo 0 R1 W (W / 4 + 10)) (rwHi 0 R2 W (W / 4 + 10)) W K) := by
 have hE : -4000 ≤ e ∧ e ≤ 4000 := by omega
 have hF : flI X e = K := by unfold flI; rw [if_neg (by omega)]; exact hK
 have hD : alP X e 0 - alQ K e 0 = 0 := by
  have c1 := c_yes (X := X) hE
  have c2 := c_yes (X := K) (e := 0) (by omega)
  have a : alE e 0 = 0 := by unfold alE; rw [c1.2, c2.2]; omega
  unfold alP alQ
  rw [a, c1.1, c1.2, c2.1, c2.2, Int.sub_zero, hK]; simp
 have HFL : Hid (∀ w, Zr w b A n c X 8 → Calls Tryz.prog 245 #[.agg #[.bool b, .slice A n c, .int .i64 e]] w (fun e' w' => e' = .returned (.int .i64 K) ∧ Below w.heap.size w w')) := Lib.hid (fun w h => by have k := Efloor_any h (by omega) hE (by rw [hF]; omega); rw [hF] at k; exact k)
 obtain ⟨M, hM⟩ : ∃ M : Int, M = 0 := ⟨_, rfl⟩
 obtain ⟨f, hf⟩ : ∃ f : Int, f = 0 := ⟨_, rfl⟩
 have HR : Hid (od (alP X e 0 - alQ K e 0) = M ∧ nE (alP X e 0 - alQ K e 0) (alE e 0) = f) := Lib.hid (by rw [hD, hM, hf]; exact ⟨od_zero, nE_zero _⟩)
 have HE : Hid (-4000 ≤ f ∧ f ≤ 4000) := Lib.hid (by omega)
 have ln := (ln_in hW.2).2.2.2.1
 have p := tw_pos W
 have b1 : bLo M f W = 0 := by unfold bLo; rw [hM, fl_z]
 have b2 : bHi M f W = 0 := by unfold bHi; rw [hM, Int.neg_zero, fl_z]; rfl
 have s0 : Si 0 8 := sw_si hW.2 (by omega) (by omega)
 have HM : Hid ((mn4 (fun x y => flI (x * y) (-(W : Int))) (bLo M f W) (bHi M f W) (lnA W) (lnZ W) = R1 ∧ mx4 (fun x y => -flI (-(x * y)) (-(W : Int))) (bLo M f W) (bHi M f W) (lnA W) (lnZ W) = R2) ∧ Si R1 8 ∧ Si R2 8) := Lib.hid (by rw [b1, b2, hR.1, hR.2]; exact ⟨by simp only [mn4, mx4, Int.zero_mul, Int.neg_zero, fl_z]; omega, s0, s0⟩)
 have HV : Hid ((bLo M f W ≤ bHi M f W ∧ lnA W ≤ lnZ W) ∧ (0 ≤ R1 ∧ R1 ≤ R2 ∧ R2 ≤ twP W) ∧ Si (bLo M f W) 8 ∧ Si (bHi M f W) 8) := Lib.hid (by rw [b1, b2]; exact ⟨⟨by omega, ln⟩, by omega, s0, s0⟩)
 have HLN := Lib.hid (fun w => Eln2_any (w := w) W hW.2 (ln_si hW.2))
 have HWH : Hid (-1000000000 ≤ K ∧ K ≤ 1000000000) := Lib.hid (by omega)
 clear ln p b1 b2 s0 hE hF hD hK hM hf hR
 have HBO := Lib.hid (fun w A n c (h : Zn w A n c M 200) => EballOf_any h.zr (by omega) HE.out W hW.2 HV.out.2.2)
 generalize bLo M f W = P1 at *
 generalize bHi M f W = P2 at *
 generalize lnA W = L1 at *
 generalize lnZ W = L2 at *
 go_enter Tryz.func244, Tryz.ntmps244
 go_wp2_with fail
 refine al3c fun v1 hb _ x_x x_r => ?_
 replace x_x := Dx.of x_x; replace x_r := Nx.of x_r
 obtain ⟨h, hT⟩ := mv2 hb h hT
 have q_x := x_x.al
 have q_r := x_r.al
 clear q_r
 skip
 with_reducible refine (HFL.out _ h).mono ?_
 rintro e v2 ⟨rfl, hb1⟩
 obtain ⟨x_x, x_r, h, hT, hb⟩ := mv5 hb1 x_x x_r h hT hb
 clear hb1
 replace q_x := x_x.al
 go_upto_region 2 with fail
 have hv := Below.refl v2.heap.size v2
 have l_x_d := x_x.lt
 have l_r_d := x_r.lt
 go_cut [9] (fun s9 wx => DxNew v2 M f 200 s9 wx)
 case first =>
  go_region_held3 (fun w' => w'.cell? ⟨w.heap.size + 1, 0, none⟩ = some (.bool b) ∧ w'.cell? ⟨w.heap.size + 1, 1, none⟩ = some (.slice A n c) ∧ w'.cell? ⟨w.heap.size + 1, 2, none⟩ = some (.int .i64 e))
   (first | (with_reducible exact ⟨x_x.c0, x_x.c1, x_x.c2⟩) | (with_reducible exact ⟨(x_x.alloc _).c0, (x_x.alloc _).c1, (x_x.alloc _).c2⟩) | (with_reducible exact ⟨(x_x.asideD (by omega)).c0, (x_x.asideD (by omega)).c1, (x_x.asideD (by omega)).c2⟩) | (with_reducible exact ⟨((x_x.alloc _).asideD (by omega)).c0, ((x_x.alloc _).asideD (by omega)).c1, ((x_x.alloc _).asideD (by omega)).c2⟩) | go_keep)
   (first | (go_at_call 215; (with_reducible refine (Ewhole_any K HWH.out).mono ?_); rintro e v3 ⟨A9, n9, c9, rfl, z9, hb1⟩; replace hb1 := undrew hb1; (try replace x_d := x_d.keep hb1); replace hv := bthen hv hb1; have hvs_v3 := hv.size; obtain ⟨x_x, x_r, h, hT, hb⟩ := mv5 hb1 x_x x_r h hT hb; clear hb1; replace q_x := x_x.al; (try (have q_d0 := x_d.c0; have q_d1 := x_d.c1; have q_d2 := x_d.c2; have f_d0 := x_d.fr 0; have f_d1 := x_d.fr 1; have f_d2 := x_d.fr 2))) | (go_at_call 215; (with_reducible refine (Ewhole_any K HWH.out).mono ?_); rintro e v3 ⟨A9, n9, c9, rfl, z9, hb1⟩; replace hb1 := undrew hb1; have x_d := (Dx.new v2 false none 0 0 0).keep hb1; replace hb1 := bthen (below_alloc v2 (.cells #[.bool false, .slice none 0 0, .int .i64 0] 55)) hb1; replace hv := bthen hv hb1; have hvs_v3 := hv.size; obtain ⟨x_x, x_r, h, hT, hb⟩ := mv5 hb1 x_x x_r h hT hb; clear hb1; replace q_x := x_x.al; (try (have q_d0 := x_d.c0; have q_d1 := x_d.c1; have q_d2 := x_d.c2; have f_d0 := x_d.fr 0; have f_d1 := x_d.fr 1; have f_d2 := x_d.fr 2))) | (go_at_call 246; (with_reducible refine (DSub_any h z9 hT 140 (by omega) (by omega) (by omega)).mono ?_); rintro e v4 ⟨A5, n5, c5, rfl, z5, hb1⟩; (try replace x_d := x_d.keep hb1); replace hv := bthen hv hb1; have hvs_v4 := hv.size; obtain ⟨x_x, x_r, h, hT, z9, hb⟩ := mv6 hb1 x_x x_r h hT z9 hb; clear hb1; replace q_x := x_x.al; rw [HR.out.1, HR.out.2] at *; (try (have q_d0 := x_d.c0; have q_d1 := x_d.c1; have q_d2 := x_d.c2; have f_d0 := x_d.fr 0; have f_d1 := x_d.fr 1; have f_d2 := x_d.fr 2))) | (go_at_call 246; (with_reducible refine (DSub_any (h.keep (below_alloc v3 (.cells #[.bool false, .slice none 0 0, .int .i64 0] 55))) (z9.keep (below_alloc v3 (.cells #[.bool false, .slice none 0 0, .int .i64 0] 55))) (hT.keep (below_alloc v3 (.cells #[.bool false, .slice none 0 0, .int .i64 0] 55))) 140 (by omega) (by omega) (by omega)).mono ?_); rintro e v4 ⟨A5, n5, c5, rfl, z5, hb1⟩; have x_d := (Dx.new v3 false none 0 0 0).keep hb1; replace hb1 := bthen (below_alloc v3 (.cells #[.bool false, .slice none 0 0, .int .i64 0] 55)) hb1; replace hv := bthen hv hb1; have hvs_v4 := hv.size; obtain ⟨x_x, x_r, h, hT, z9, hb⟩ := mv6 hb1 x_x x_r h hT z9 hb; clear hb1; replace q_x := x_x.al; rw [HR.out.1, HR.out.2] at *; (try (have q_d0 := x_d.c0; have q_d1 := x_d.c1; have q_d2 := x_d.c2; have f_d0 := x_d.fr 0; have f_d1 := x_d.fr 1; have f_d2 := x_d.fr 2))))
  all_goals go_wp2_with fail
  all_goals go_meet
  all_goals first | exact DxNew.new hv (z5.wide (by omega)) | exact DxNew.put hv x_d (by omega) (z5.wide (by omega))
 obtain ⟨g5, A6, n6, c6, rfl, x_d, z_d, e_d, hb1⟩ := hcut
 clear hv
 obtain ⟨x_x, x_r, h, hT, hb⟩ := mv5 hb1 x_x x_r h hT hb
 clear hb1
 replace q_x := x_x.al
 clear q_x
 generalize wc = v7 at *
 have q_x := x_x.al
 have q_d := x_d.al
 go_wp2_with fail
 skip
 with_reducible refine (HBO.out _ _ _ _ z_d).mono ?_
 rintro e v8 ⟨A11, n11, c11, A12, n12, c12, rfl, z11, z12, hb1⟩
 obtain ⟨x_r, x_d, z_d, hb⟩ := mv4 hb1 x_r x_d z_d hb
 clear hb1
 replace q_d := x_d.al
 go_wp2_with fail
 with_reducible refine (HLN.out _).mono ?_
 rintro e v9 ⟨A7, n7, c7, A8, n8, c8, rfl, z7, z8, hb1⟩
 obtain ⟨x_r, z11, z12, hb⟩ := mv4 hb1 x_r z11 z12 hb
 clear hb1
 go_wp2_with fail
 with_reducible refine (Etimes_any z11 z12 z7 z8 ⟨by omega, by omega, HV.out.1.1⟩ HV.out.1.2 R1 R2 HM.out).mono ?_
 rintro e v10 ⟨A13, n13, c13, A14, n14, c14, rfl, z13, z14, hb1⟩
 obtain ⟨x_r, z11, z12, z7, z8, hb⟩ := mv6 hb1 x_r z11 z12 z7 z8 hb
 clear hb1
 go_wp2_with fail
 with_reducible refine (Eexponential_any z13 z14 hW HV.out.2.1 _ _ ⟨rfl, rfl⟩).mono ?_
 rintro e v11 ⟨A15, n15, c15, A16, n16, c16, rfl, z15, z16, hb1⟩
 obtain ⟨x_r, z13, z14, hb⟩ := mv4 hb1 x_r z13 z14 hb
 clear hb1
 have q_r := x_r.al
 go_wp2
 clear q_r
 refine x_r.st fun v12 hs hx => ?_
 obtain ⟨z15, z16, hb⟩ := ms3 hs ⟨trivial, trivial, by omega⟩ z15 z16 hb
 replace x_r := hx; clear hx hs
 have q_r := x_r.al
 skip
 refine bodyPost_ret (v := .tuple #[.agg #[.bool (ngB (rwLo 0 R1 W (W / 4 + 10))), .slice A15 n15 c15, .bool (ngB (rwHi 0 R2 W (W / 4 + 10))), .slice A16 n16 c16, .int .i64 (W : Int)], .int .i64 K]) (by simp [results, Tryz.results244, go_sem, q_r]) rfl ?_
 exact ⟨_, _, _, _, _, _, rfl, z15, z16, hb⟩
end Go.Proofs.YtdonaominffpnaaGreatDoor
