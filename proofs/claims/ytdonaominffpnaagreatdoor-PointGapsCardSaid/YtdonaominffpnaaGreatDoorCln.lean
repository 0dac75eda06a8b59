/-
 consts: Ln2, Pi.
-/
import Derived.Test.YtdonaominffpnaaGreatDoorQdef
import Derived.Test.YtdonaominffpnaaGreatDoorLclos
import Derived.Test.YtdonaominffpnaaGreatDoorLtimes
import Derived.Test.YtdonaominffpnaaGreatDoorLsum2
import Derived.Test.YtdonaominffpnaaGreatDoorEbox
import Derived.Test.YtdonaominffpnaaGreatDoorKexp
import Derived.Shelf.Abstract
namespace Go.Proofs.YtdonaominffpnaaGreatDoor
variable {A A2 : Option Addr} {W c c2 k k2 n n2 : Nat} {X Y a b q : Int} {v w wx : World}
set_option maxRecDepth 100000
set_option maxHeartbeats 8000000
set_option linter.unusedVariables false
open Go.RowKit
theorem dg_lone {N : Nat} (h0 : 0 < N) (h1 : N < Wd) : dg Wd N = [(N : Int)] := by rw [dg_pos Wd2 h0, Nat.mod_eq_of_lt h1, Nat.div_eq_of_lt h1, dg_zero]
theorem lone_zn {K : Int} (h1 : 1 ≤ K ∧ K ≤ 1000000) (h : Rd w w.heap.size A 1 1 [K]) : Zn w A 1 1 K 1 := by
 refine ⟨?_, Nat.le_refl _⟩
 rw [dg_lone (by omega) (by rw [Wd_eq]; omega), show (K.natAbs : Int) = K by omega]; exact h
theorem pt_at : flI (cM X 0) (cE 0 + W) = X * twP W ∧ -flI (-cM X 0) (cE 0 + W) = X * twP W := by
 obtain ⟨e1, e2⟩ := c_yes (X := X) (e := 0) (by omega)
 rw [e1, e2]
 unfold flI twP
 rcases Nat.eq_zero_or_pos W with rfl | hW
 ·simp
 ·rw [if_neg (by omega), if_neg (by omega), show (0 + (W : Int)).toNat = W by omega]
  refine ⟨rfl, ?_⟩
  rw [Int.neg_mul]; omega
theorem min4 {f : Int → Int → Int} {c : Int} (h : f a b = c) : mn4 f a a b b = c := by unfold mn4; rw [h]; omega
theorem max4 {f : Int → Int → Int} {c : Int} (h : f a b = c) : mx4 f a a b b = c := by unfold mx4; rw [h]; omega
theorem rec_is {m : Nat} (hm : 1 < m) (hc : Nat.Coprime m 2) : mn4 (fun x y => fdI (x * 2 ^ (W : Int).toNat) y) (1 * twP W) (1 * twP W) (m * twP W) (m * twP W) = ptN W m ∧ mx4 (fun x y => cdI (x * 2 ^ (W : Int).toNat) y) (1 * twP W) (1 * twP W) (m * twP W) (m * twP W) = ptN W m + 1 := by
 have p := tw_pos W
 have pm : 0 < (m : Int) * twP W := Int.mul_pos (by omega) p
 have e : 1 * twP W * 2 ^ (W : Int).toNat = twP W * twP W := by rw [Int.one_mul]; rfl
 have q : twP W * twP W / ((m : Int) * twP W) = ptN W m := by
  rw [Int.mul_ediv_mul_of_pos_left _ _ p]; unfold ptN; rw [Int.natCast_ediv, twN]
 have r : ¬ twP W * twP W % ((m : Int) * twP W) = 0 := by
  intro h
  obtain ⟨k, hk⟩ := Int.dvd_of_emod_eq_zero h
  have h2 : twP W = m * k := by
   have : twP W * twP W = twP W * (m * k) := by rw [hk]; grind
   exact Int.eq_of_mul_eq_mul_left (by omega) this
  have h3 : (m : Int) ∣ ((2 ^ W : Nat) : Int) := ⟨k, by rw [twN]; exact h2⟩
  have h4 := Int.natCast_dvd_natCast.1 h3
  have := Nat.Coprime.eq_one_of_dvd (Nat.Coprime.pow_right W hc) h4
  omega
 exact ⟨min4 (by show fdI _ _ = _; rw [e, (fd_pos pm).1, q]), max4 (by show cdI _ _ = _; rw [e, (fd_pos pm).2, if_neg r, q])⟩
def LnNew (v : World) (X Y q : Int) (k k2 : Nat) (s : Value) (wx : World) : Prop :=
 ∃ g A n c A2 n2 c2, s = .pointer (some ⟨g, 0, none⟩) ∧ Lx wx g (ngB X) A n c (ngB Y) A2 n2 c2 q ∧ Zn wx A n c X k ∧ Zn wx A2 n2 c2 Y k2 ∧ v.heap.size ≤ g ∧ Below v.heap.size v wx
theorem LnNew.put {g m1 d1 m2 d2 : Nat} {p1 p2 : Bool} {B1 B2 : Option Addr} {e0 : Int} (hv : Below v.heap.size v wx) (x : Lx wx g p1 B1 m1 d1 p2 B2 m2 d2 e0) (hg : v.heap.size ≤ g) (z : Zn wx A n c X k) (z2 : Zn wx A2 n2 c2 Y k2) :
  LnNew v X Y q k k2 (.pointer (some ⟨g, 0, none⟩)) (((((wx.setCell ⟨g, 0, none⟩ (.bool (ngB X))).setCell ⟨g, 1, none⟩ (.slice A n c)).setCell ⟨g, 2, none⟩ (.bool (ngB Y))).setCell ⟨g, 3, none⟩ (.slice A2 n2 c2)).setCell ⟨g, 4, none⟩ (.int .i64 q)) :=
 ⟨g, _, _, _, _, _, _, rfl, x.put _ _ _ _ _ _ _ _ _, z.putL x, z2.putL x, hg, put_belowL hv hg _ _ _ _ _⟩
theorem LnNew.new (hv : Below v.heap.size v wx) (z : Zn wx A n c X k) (z2 : Zn wx A2 n2 c2 Y k2) :
  LnNew v X Y q k k2 (.pointer (some ⟨wx.heap.size, 0, none⟩)) (wx.alloc (.cells #[.bool (ngB X), .slice A n c, .bool (ngB Y), .slice A2 n2 c2, .int .i64 q] 26)) :=
 ⟨wx.heap.size, _, _, _, _, _, _, rfl, Lx.new _ _ _ _ _ _ _ _ _ _, z.keep (below_alloc _ _), z2.keep (below_alloc _ _), hv.size, bthen hv (below_alloc _ _)⟩
theorem whole_any (K : Int) (w : World) (h1 : 1 ≤ K ∧ K ≤ 1000000) :
  Calls Tryz.prog 237 #[.int .u64 K] w (OutZ w K 1) := by
 have hm : Lm K := lm_small (by omega) (by omega)
 have HNG := Lib.hid (show ngB K = false by unfold ngB; exact decide_eq_false (by omega))
 go_enter Tryz.func237, Tryz.ntmps237
 go_wp2
 have u1 := lay1s (w.alloc (.cells #[.bool false, .slice (some ⟨w.heap.size + 1, 0, none⟩) 1 1] 24)) K hm (g := w.heap.size + 1) (by simp)
 have hb := below_alloc2 w (.cells #[.bool false, .slice (some ⟨w.heap.size + 1, 0, none⟩) 1 1] 24) (.cells #[.int .u64 K] 36)
 refine bodyPost_ret (v := .agg #[.bool false, .slice (some ⟨w.heap.size + 1, 0, none⟩) 1 1]) (by simp [results, Tryz.results237, go_sem]) rfl ?_
 exact ⟨_, _, _, by rw [HNG.out], lone_zn h1 u1, hb⟩
theorem Ctimes_any {b b2 : Bool} (h : Zr w b A n c X 20) (h2 : Zr w b2 A2 n2 c2 Y 20) (K : Int) (hK : 1 ≤ K ∧ K ≤ 1000000) (hv : 0 ≤ q ∧ q ≤ 2048 ∧ X ≤ Y) :
  Calls Tryz.prog 230 #[.agg #[.bool b, .slice A n c, .bool b2, .slice A2 n2 c2, .int .i64 q], .int .u64 K] w (OuB w (X * K) (Y * K) q 60) := by
 obtain ⟨t1, t2⟩ := tm_pos (K := K) hv.2.2 (by omega)
 obtain ⟨X2, hX2⟩ : ∃ e, X * K = e := ⟨_, rfl⟩
 obtain ⟨Y2, hY2⟩ : ∃ e, Y * K = e := ⟨_, rfl⟩
 rw [hX2, hY2]
 have HTm := Lib.hid (t1.trans hX2); have HTx := Lib.hid (t2.trans hY2); have HV := Lib.hid hv; have HX2 := Lib.hid hX2; have HY2 := Lib.hid hY2; clear t1 t2 hv hX2 hY2
 go_enter Tryz.func230, Tryz.ntmps230
 go_upto_region 1 with fail
 refine al2 fun v1 hb x_a x_r => ?_
 replace x_a := Lx.of x_a; replace x_r := Lx.of x_r
 obtain ⟨h, h2⟩ := mv2 hb h h2
 have q_a := x_a.al
 have q_r := x_r.al
 clear q_r
 have hv := Below.refl v1.heap.size v1
 have l_a_p := x_a.lt
 have l_r_p := x_r.lt
 go_cut [5] (fun s9 wx => LnNew v1 X2 Y2 q 60 60 s9 wx)
 case first =>
  go_region_held3 (fun w' => w'.cell? ⟨w.heap.size, 0, none⟩ = some (.bool b) ∧ w'.cell? ⟨w.heap.size, 1, none⟩ = some (.slice A n c) ∧ w'.cell? ⟨w.heap.size, 2, none⟩ = some (.bool b2) ∧ w'.cell? ⟨w.heap.size, 3, none⟩ = some (.slice A2 n2 c2) ∧ w'.cell? ⟨w.heap.size, 4, none⟩ = some (.int .i64 q))
   (first | (with_reducible exact ⟨x_a.c0, x_a.c1, x_a.c2, x_a.c3, x_a.c4⟩) | (with_reducible exact ⟨(x_a.alloc _).c0, (x_a.alloc _).c1, (x_a.alloc _).c2, (x_a.alloc _).c3, (x_a.alloc _).c4⟩) | (with_reducible exact ⟨(x_a.asideL (by omega)).c0, (x_a.asideL (by omega)).c1, (x_a.asideL (by omega)).c2, (x_a.asideL (by omega)).c3, (x_a.asideL (by omega)).c4⟩) | (with_reducible exact ⟨((x_a.alloc _).asideL (by omega)).c0, ((x_a.alloc _).asideL (by omega)).c1, ((x_a.alloc _).asideL (by omega)).c2, ((x_a.alloc _).asideL (by omega)).c3, ((x_a.alloc _).asideL (by omega)).c4⟩) | go_keep)
   (first | (go_at_call 237; (with_reducible refine (whole_any K _ hK).mono ?_); rintro e v2 ⟨A9, n9, c9, rfl, z9, hb1⟩; replace hb1 := undrew hb1; (try replace x_p := x_p.keep hb1); replace hv := bthen hv hb1; have hvs_v2 := hv.size; obtain ⟨x_a, x_r, h, h2, hb⟩ := mv5 hb1 x_a x_r h h2 hb; clear hb1; replace q_a := x_a.al; (try (have q_p0 := x_p.c0; have f_p0 := x_p.fr 0; have q_p1 := x_p.c1; have f_p1 := x_p.fr 1; have q_p2 := x_p.c2; have f_p2 := x_p.fr 2; have q_p3 := x_p.c3; have f_p3 := x_p.fr 3; have q_p4 := x_p.c4; have f_p4 := x_p.fr 4))) | (go_at_call 237; (with_reducible refine (whole_any K _ hK).mono ?_); rintro e v2 ⟨A9, n9, c9, rfl, z9, hb1⟩; replace hb1 := undrew hb1; have x_p := (Lx.new v1 false none 0 0 false none 0 0 0).keep hb1; replace hb1 := bthen (below_alloc v1 (.cells #[.bool false, .slice none 0 0, .bool false, .slice none 0 0, .int .i64 0] 26)) hb1; replace hv := bthen hv hb1; have hvs_v2 := hv.size; obtain ⟨x_a, x_r, h, h2, hb⟩ := mv5 hb1 x_a x_r h h2 hb; clear hb1; replace q_a := x_a.al; (try (have q_p0 := x_p.c0; have f_p0 := x_p.fr 0; have q_p1 := x_p.c1; have f_p1 := x_p.fr 1; have q_p2 := x_p.c2; have f_p2 := x_p.fr 2; have q_p3 := x_p.c3; have f_p3 := x_p.fr 3; have q_p4 := x_p.c4; have f_p4 := x_p.fr 4))) | (go_at_call 214; (with_reducible refine (Times_yes h h2 z9.zr HV.out (by omega) (by omega) (by omega)).mono ?_); rintro e v3 ⟨A15, n15, c15, A16, n16, c16, rfl, z15, z16, hb1⟩; (try replace x_p := x_p.keep hb1); replace hv := bthen hv hb1; have hvs_v3 := hv.size; obtain ⟨x_a, x_r, h, h2, z9, hb⟩ := mv6 hb1 x_a x_r h h2 z9 hb; clear hb1; replace q_a := x_a.al; rw [HTm.out] at z15 ⊢; rw [HTx.out] at z16 ⊢; (try (have q_p0 := x_p.c0; have f_p0 := x_p.fr 0; have q_p1 := x_p.c1; have f_p1 := x_p.fr 1; have q_p2 := x_p.c2; have f_p2 := x_p.fr 2; have q_p3 := x_p.c3; have f_p3 := x_p.fr 3; have q_p4 := x_p.c4; have f_p4 := x_p.fr 4))) | (go_at_call 214; (with_reducible refine (Times_yes (h.keep (below_alloc v2 (.cells #[.bool false, .slice none 0 0, .bool false, .slice none 0 0, .int .i64 0] 26))) (h2.keep (below_alloc v2 (.cells #[.bool false, .slice none 0 0, .bool false, .slice none 0 0, .int .i64 0] 26))) (z9.keep (below_alloc v2 (.cells #[.bool false, .slice none 0 0, .bool false, .slice none 0 0, .int .i64 0] 26))).zr HV.out (by omega) (by omega) (by omega)).mono ?_); rintro e v3 ⟨A15, n15, c15, A16, n16, c16, rfl, z15, z16, hb1⟩; have x_p := (Lx.new v2 false none 0 0 false none 0 0 0).keep hb1; replace hb1 := bthen (below_alloc v2 (.cells #[.bool false, .slice none 0 0, .bool false, .slice none 0 0, .int .i64 0] 26)) hb1; replace hv := bthen hv hb1; have hvs_v3 := hv.size; obtain ⟨x_a, x_r, h, h2, z9, hb⟩ := mv6 hb1 x_a x_r h h2 z9 hb; clear hb1; replace q_a := x_a.al; rw [HTm.out] at z15 ⊢; rw [HTx.out] at z16 ⊢; (try (have q_p0 := x_p.c0; have f_p0 := x_p.fr 0; have q_p1 := x_p.c1; have f_p1 := x_p.fr 1; have q_p2 := x_p.c2; have f_p2 := x_p.fr 2; have q_p3 := x_p.c3; have f_p3 := x_p.fr 3; have q_p4 := x_p.c4; have f_p4 := x_p.fr 4))))
  all_goals go_wp2_with fail
  all_goals go_meet
  all_goals first | (with_reducible exact LnNew.new hv z15 z16) | (with_reducible exact LnNew.put hv x_p (by omega) z15 z16)
 obtain ⟨g4, Ax5, nx5, cx5, Ay5, ny5, cy5, rfl, x_p, z1_p, z2_p, e_p, hb1⟩ := hcut
 clear hv
 obtain ⟨x_a, x_r, h, h2, hb⟩ := mv5 hb1 x_a x_r h h2 hb
 clear hb1
 replace q_a := x_a.al
 clear q_a
 generalize wc = v6 at *
 have q_a := x_a.al
 have q_p := x_p.al
 have q_r := x_r.al
 go_wp2
 clear q_a q_r q_p
 refine x_r.st fun v7 hs hx => ?_
 obtain ⟨x_a, x_p, h, h2, z1_p, z2_p, hb⟩ := ms7 hs ⟨by omega, by omega, trivial, trivial, trivial, trivial, by omega⟩ x_a x_p h h2 z1_p z2_p hb
 replace x_r := hx; clear hx hs
 have q_a := x_a.al
 have q_r := x_r.al
 have q_p := x_p.al
 skip
 refine bodyPost_ret (v := .agg #[.bool (ngB X2), .slice Ax5 nx5 cx5, .bool (ngB Y2), .slice Ay5 ny5 cy5, .int .i64 q]) (by simp [results, Tryz.results230, go_sem, q_r]) rfl ?_
 exact ⟨_, _, _, _, _, _, rfl, z1_p, z2_p, hb⟩
end Go.Proofs.YtdonaominffpnaaGreatDoor
namespace Go.Proofs.YtdonaominffpnaaGreatDoor
set_option maxRecDepth 100000
set_option maxHeartbeats 8000000
set_option linter.unusedVariables false
open Go.RowKit
theorem reciprocal_any (W m : Nat) (K : Int) (hK : K = (m : Int)) (w : World) (hW : 16 ≤ W ∧ W ≤ 1000) (hm : 3 ≤ m ∧ m ≤ 300) (hc : Nat.Coprime m 2) :
  Calls Tryz.prog 238 #[.int .u64 K, .int .i64 (W : Nat)] w (OuB w (ptN W m) (ptN W m + 1) W 19) := by
 have hp := tw_pos W
 have hbd := pt_bd (m := m) hW hm.1
 obtain ⟨r1, r2⟩ := rec_is (W := W) (m := m) (by omega) hc
 rw [← hK] at r1 r2
 have a1 := pt_at (X := 1) (W := W)
 have a2 := pt_at (X := K) (W := W)
 obtain ⟨D, hD⟩ : ∃ e, ptN W m = e := ⟨_, rfl⟩
 rw [hD] at r1 r2 hbd ⊢
 have BD : Hid (Si D 18 ∧ Si (D + 1) 18) := Lib.hid ⟨si_twL (K := 2) (Q := W) (by omega) (by omega) (by omega) (by omega), si_twL (K := 2) (Q := W) (by omega) (by omega) (by omega) (by omega)⟩
 have hKp : 0 ≤ K * twP W := Int.mul_nonneg (by omega) (Int.le_of_lt hp)
 have hKq : K * twP W ≤ (300 : Nat) * twP W := Int.mul_le_mul_of_nonneg_right (by omega) (Int.le_of_lt hp)
 have BP : Hid (Si (1 * twP W) 20 ∧ Si (K * twP W) 20) := Lib.hid ⟨si_tw (K := 1) (Q := W) (by omega) (by omega) (by omega) (by omega), si_tw (K := 300) (Q := W) (by omega) (by omega) hKq (by omega)⟩
 have hPK : 0 < K * twP W := Int.mul_pos (by omega) hp
 obtain ⟨P1, hP1⟩ : ∃ e, 1 * twP W = e := ⟨_, rfl⟩
 obtain ⟨P2, hP2⟩ : ∃ e, K * twP W = e := ⟨_, rfl⟩
 rw [hP1] at r1 r2 a1 BP; rw [hP2] at r1 r2 a2 BP hPK
 have HK : 3 ≤ K ∧ K ≤ 300 := by omega
 clear hK hm hc
 have R1 := Lib.hid r1; have R2 := Lib.hid r2; have H1 := Lib.hid a1; have H2 := Lib.hid a2; have HP := Lib.hid hPK; clear hp hbd r1 r2 a1 a2 hD hKp hKq hP1 hP2 hPK
 go_enter Tryz.func238, Tryz.ntmps238
 go_wp2_with fail
 refine al1c fun v1 hb x_r => ?_
 replace x_r := Lx.of x_r
 have q_r := x_r.al
 clear q_r
 go_wp2_with fail
 with_reducible refine (whole_any 1 _ ⟨by omega, by omega⟩).mono ?_
 rintro e v2 ⟨A13, n13, c13, rfl, z13, hb1⟩
 obtain ⟨x_r, hb⟩ := mv2 hb1 x_r hb
 clear hb1
 go_wp2_with fail
 with_reducible refine (Point_yes z13.zr (W : Nat) (by omega) 129 (by omega) (by omega)).mono ?_
 rintro e v3 ⟨A3, n3, c3, A4, n4, c4, rfl, z3, z4, hb1⟩
 obtain ⟨x_r, z13, hb⟩ := mv3 hb1 x_r z13 hb
 clear hb1
 rw [H1.out.1] at z3 ⊢; rw [H1.out.2] at z4 ⊢
 replace z3 := z3.slim BP.out.1; replace z4 := z4.slim BP.out.1
 clear z13
 go_wp2_with fail
 have l_r_a := x_r.lt
 have e_a : w.heap.size ≤ v3.heap.size := hb.size
 refine al1c fun v4 hb1 x_a => ?_
 replace x_a := Lx.of x_a
 obtain ⟨x_r, z3, z4, hb⟩ := mv4 hb1 x_r z3 z4 hb
 clear hb1
 have q_a := x_a.al
 go_wp2_with fail
 with_reducible refine (whole_any K _ ⟨by omega, by omega⟩).mono ?_
 rintro e v5 ⟨A15, n15, c15, rfl, z15, hb1⟩
 obtain ⟨x_r, x_a, z3, z4, hb⟩ := mv5 hb1 x_r x_a z3 z4 hb
 clear hb1
 replace q_a := x_a.al
 go_wp2_with fail
 with_reducible refine (Point_yes z15.zr (W : Nat) (by omega) 129 (by omega) (by omega)).mono ?_
 rintro e v6 ⟨A5, n5, c5, A6, n6, c6, rfl, z5, z6, hb1⟩
 obtain ⟨x_r, x_a, z3, z4, z15, hb⟩ := mv6 hb1 x_r x_a z3 z4 z15 hb
 clear hb1
 replace q_a := x_a.al
 rw [H2.out.1] at z5 ⊢; rw [H2.out.2] at z6 ⊢
 replace z5 := z5.slim BP.out.2; replace z6 := z6.slim BP.out.2
 clear z15
 have y_a := ((x_a.alloc (.cells #[.bool (ngB P2), .slice A5 n5 c5, .bool (ngB P2), .slice A6 n6 c6, .int .i64 (W : Int)] 26))).al
 go_wp2_with fail
 clear y_a
 have l_r_d := x_r.lt
 have l_a_d := x_a.lt
 have e_d : w.heap.size ≤ v6.heap.size := hb.size
 clear q_a
 refine al1c fun v7 hb1 x_d => ?_
 replace x_d := Lx.of x_d
 obtain ⟨x_r, x_a, z3, z4, z5, z6, hb⟩ := mv7 hb1 x_r x_a z3 z4 z5 z6 hb
 clear hb1
 have q_a := x_a.al
 have q_d := x_d.al
 skip
 with_reducible refine (LDiv_any z3.zr z4.zr z5.zr z6.zr ⟨by omega, by omega, Int.le_refl _⟩ (Int.le_refl _) ⟨by have := HP.out; omega, by have := HP.out; omega, by have := HP.out; omega⟩ 20 (by omega) (by omega) (by omega) (by omega) 150 (by omega) (by omega)).mono ?_
 rintro e v8 ⟨A7, n7, c7, A8, n8, c8, rfl, z7, z8, hb1⟩
 obtain ⟨x_r, x_a, x_d, z3, z4, z5, z6, hb⟩ := mv8 hb1 x_r x_a x_d z3 z4 z5 z6 hb
 clear hb1
 replace q_a := x_a.al
 replace q_d := x_d.al
 rw [R1.out] at z7 ⊢; rw [R2.out] at z8 ⊢
 replace z7 := z7.slim BD.out.1; replace z8 := z8.slim BD.out.2
 clear q_a
 clear q_d
 clear z3 z4 z5 z6
 go_upto_region 4 with fail
 have l_r_p := x_r.lt
 have l_a_p := x_a.lt
 have l_d_p := x_d.lt
 have e_p : w.heap.size ≤ v8.heap.size := hb.size
 refine al1 fun v9 hb1 x_p => ?_
 replace x_p := Lx.of x_p
 obtain ⟨x_r, x_a, x_d, z7, z8, hb⟩ := mv6 hb1 x_r x_a x_d z7 z8 hb
 clear hb1
 have q_p := x_p.al
 have q_r := x_r.al
 go_wp2
 clear q_r q_p
 refine x_r.st fun v10 hs hx => ?_
 obtain ⟨x_a, x_d, x_p, z7, z8, hb⟩ := ms6 hs ⟨by omega, by omega, by omega, trivial, trivial, by omega⟩ x_a x_d x_p z7 z8 hb
 replace x_r := hx; clear hx hs
 have q_r := x_r.al
 have q_p := x_p.al
 skip
 refine bodyPost_ret (v := .agg #[.bool (ngB D), .slice A7 n7 c7, .bool (ngB (D + 1)), .slice A8 n8 c8, .int .i64 (W : Int)]) (by simp [results, Tryz.results238, go_sem, q_r]) rfl ?_
 exact ⟨_, _, _, _, _, _, rfl, z7.wide (by omega), z8.wide (by omega), hb⟩
end Go.Proofs.YtdonaominffpnaaGreatDoor
namespace Go.Proofs.YtdonaominffpnaaGreatDoor
set_option maxRecDepth 100000
set_option maxHeartbeats 8000000
set_option linter.unusedVariables false
open Go.RowKit
theorem ofPart_any {fid : Nat} (hent : ∀ (args : Array Value) (w : World), (callFunc fid args).run Tryz.prog w = .ok (.enter fid args) w) (lo hi : Int → Int) (W m M : Nat) (K : Int) (hK : K = (m : Int)) (w : World) (hW : 16 ≤ W ∧ W ≤ 1000) (hm : 3 ≤ m ∧ m ≤ 300) (hc : Nat.Coprime m 2)
  (hat : ∀ (w' : World) (b : Bool) (A : Option Addr) (n c : Nat) (X : Int), X = ptN W m ∨ X = ptN W m + 1 → Zr w' b A n c X 19 → Calls Tryz.prog fid #[.agg #[.bool b, .slice A n c], .int .i64 (W : Nat), .int .i64 (M : Nat)] w' (Ou2 w' (lo X) (hi X) 0 25))
  (hsi : Si (lo (ptN W m)) 20 ∧ Si (hi (ptN W m + 1)) 20) :
  Calls Tryz.prog 231 #[.func (.func fid) #[] #[], .int .u64 K, .int .i64 (W : Nat), .int .i64 (M : Nat)] w (OuB w (lo (ptN W m)) (hi (ptN W m + 1)) W 20) := by
 have HK := Lib.hid hK; clear hK
 obtain ⟨D, hD⟩ : ∃ e, ptN W m = e := ⟨_, rfl⟩
 rw [hD] at hsi hat ⊢
 have HD := Lib.hid hD; clear hD
 obtain ⟨P1, hP1⟩ : ∃ e, lo D = e := ⟨_, rfl⟩
 obtain ⟨R1, hR1⟩ : ∃ e, hi D = e := ⟨_, rfl⟩
 obtain ⟨P2, hP2⟩ : ∃ e, lo (D + 1) = e := ⟨_, rfl⟩
 obtain ⟨R2, hR2⟩ : ∃ e, hi (D + 1) = e := ⟨_, rfl⟩
 rw [hP1, hR2] at hsi; rw [hP1, hR2]
 have BS := Lib.hid hsi; clear hsi
 have hat1 := fun w' b A n c => hat w' b A n c D (Or.inl rfl)
 have hat2 := fun w' b A n c => hat w' b A n c (D + 1) (Or.inr rfl)
 rw [hP1, hR1] at hat1; rw [hP2, hR2] at hat2
 have HA1 := Lib.hid hat1; have HA2 := Lib.hid hat2; clear hat hat1 hat2 hP1 hR1 hP2 hR2
 go_enter Tryz.func231, Tryz.ntmps231
 go_wp2_with fail
 refine al1c fun v1 hb x_r => ?_
 replace x_r := Lx.of x_r
 have q_r := x_r.al
 clear q_r
 go_wp2_with fail
 with_reducible refine (reciprocal_any W m K HK.out _ hW hm hc).mono ?_
 rintro e v2 ⟨A5, n5, c5, A6, n6, c6, rfl, z5, z6, hb1⟩
 obtain ⟨x_r, hb⟩ := mv2 hb1 x_r hb
 clear hb1
 rw [HD.out] at z5 z6 ⊢
 go_upto_region 2 with fail
 have l_r_p := x_r.lt
 have e_p : w.heap.size ≤ v2.heap.size := hb.size
 refine al1 fun v3 hb1 x_p => ?_
 replace x_p := Lx.of x_p
 obtain ⟨x_r, z5, z6, hb⟩ := mv4 hb1 x_r z5 z6 hb
 clear hb1
 have q_p := x_p.al
 go_wp2_with fail
 with_reducible refine (HA1.out _ _ _ _ _ z5.zr).mono ?_
 rintro e v4 ⟨A20, n20, c20, A21, n21, c21, rfl, z20, z21, hb1⟩
 obtain ⟨x_r, x_p, z5, z6, hb⟩ := mv5 hb1 x_r x_p z5 z6 hb
 clear hb1
 replace q_p := x_p.al
 replace z20 := z20.slim BS.out.1
 have y_p := (((x_p.alloc (.cells #[.bool (ngB P1), .slice A20 n20 c20] 24)).alloc (.cells #[.bool (ngB R1), .slice A21 n21 c21] 24))).al
 go_upto_region 3 with fail
 clear y_p
 have l_r_c := x_r.lt
 have l_p_c := x_p.lt
 have e_c : w.heap.size ≤ v4.heap.size := hb.size
 clear q_p
 refine al2 fun v5 hb1 x_c x_e => ?_
 replace x_c := Bx.of x_c; replace x_e := Bx.of x_e
 obtain ⟨x_r, x_p, z5, z6, z20, z21, hb⟩ := mv7 hb1 x_r x_p z5 z6 z20 z21 hb
 clear hb1
 have q_p := x_p.al
 have q_c := x_c.al
 have q_e := x_e.al
 go_wp2_with fail
 with_reducible refine (HA2.out _ _ _ _ _ z6.zr).mono ?_
 rintro e v6 ⟨A30, n30, c30, A31, n31, c31, rfl, z30, z31, hb1⟩
 obtain ⟨x_r, x_p, x_c, x_e, z5, z6, z20, z21, hb⟩ := mv9 hb1 x_r x_p x_c x_e z5 z6 z20 z21 hb
 clear hb1
 replace q_p := x_p.al
 replace q_c := x_c.al
 replace q_e := x_e.al
 replace z31 := z31.slim BS.out.2
 have y_p := (((x_p.alloc (.cells #[.bool (ngB P2), .slice A30 n30 c30] 24)).alloc (.cells #[.bool (ngB R2), .slice A31 n31 c31] 24))).al
 have y_c := (((x_c.alloc (.cells #[.bool (ngB P2), .slice A30 n30 c30] 24)).alloc (.cells #[.bool (ngB R2), .slice A31 n31 c31] 24))).al
 have y_e := (((x_e.alloc (.cells #[.bool (ngB P2), .slice A30 n30 c30] 24)).alloc (.cells #[.bool (ngB R2), .slice A31 n31 c31] 24))).al
 go_upto_region 4 with fail
 clear y_p y_c y_e
 have l_r_f := x_r.lt
 have l_p_f := x_p.lt
 have l_c_f := x_c.lt
 have l_e_f := x_e.lt
 have e_f : w.heap.size ≤ v6.heap.size := hb.size
 clear q_p q_c q_e
 refine al2 fun v7 hb1 x_f x_g => ?_
 replace x_f := Bx.of x_f; replace x_g := Bx.of x_g
 obtain ⟨x_r, x_p, x_c, x_e, z5, z6, z20, z21, z30⟩ := mv9 hb1 x_r x_p x_c x_e z5 z6 z20 z21 z30
 obtain ⟨z31, hb⟩ := mv2 hb1 z31 hb
 clear hb1
 have q_p := x_p.al
 have q_c := x_c.al
 have q_e := x_e.al
 have q_f := x_f.al
 have q_g := x_g.al
 have q_r := x_r.al
 go_wp2
 clear q_r q_p q_c q_e q_f q_g
 refine x_r.st fun v8 hs hx => ?_
 obtain ⟨x_p, x_c, x_e, x_f, x_g, z5, z6, z20, z21⟩ := ms9 hs ⟨by omega, by omega, by omega, by omega, by omega, trivial, trivial, trivial, trivial⟩ x_p x_c x_e x_f x_g z5 z6 z20 z21
 obtain ⟨z30, z31, hb⟩ := ms3 hs ⟨trivial, trivial, by omega⟩ z30 z31 hb
 replace x_r := hx; clear hx hs
 have q_r := x_r.al
 have q_p := x_p.al
 have q_c := x_c.al
 have q_e := x_e.al
 have q_f := x_f.al
 have q_g := x_g.al
 skip
 refine bodyPost_ret (v := .agg #[.bool (ngB P1), .slice A20 n20 c20, .bool (ngB R2), .slice A31 n31 c31, .int .i64 (W : Int)]) (by simp [results, Tryz.results231, go_sem, q_r]) rfl ?_
 exact ⟨_, _, _, _, _, _, rfl, z20, z31, hb⟩
theorem ent_KAtanh : ∀ (args : Array Value) (w : World), (callFunc 232 args).run Tryz.prog w = .ok (.enter 232 args) w := enters_of Tryz.func232 (by kernel_rfl) rfl
theorem pt_suc (W m : Nat) : ((2 ^ W / m + 1 : Nat) : Int) = ptN W m + 1 := by unfold ptN; push_cast; rfl
theorem lnHi_pt (W : Nat) : rwHi 1 (ptN W 3 + 1) W (W / 3 + 2) = lnHi W := by rw [← pt_suc]; rfl
theorem lnPart_any (W m M : Nat) (K : Int) (hK : K = (m : Int)) (w : World) (hW : 16 ≤ W ∧ W ≤ 1000) (hm : 3 ≤ m ∧ m ≤ 300) (hc : Nat.Coprime m 2) (hM : W / 3 + 2 = M) (T : Int) (hT : T = (M : Int)) (h3 : m = 3) : Calls Tryz.prog 231 #[.func (.func 232) #[] #[], .int .u64 K, .int .i64 (W : Nat), .int .i64 T] w (OuB w (lnLo W) (lnHi W) W 20) := by
 subst hT
 have hbd := pt_bd (m := m) hW hm.1
 have h := ofPart_any ent_KAtanh (fun X => rwLo 1 X W M) (fun X => rwHi 1 X W M) W m M K hK w hW hm hc
  (fun w' b A n c X hX hz => KAtanh_yes hz W M (by omega) ⟨by omega, by omega⟩ (by rcases hX with rfl | rfl <;> omega) (by omega))
  ⟨(rw_si (by omega) (by omega) (by omega) (by omega) (by omega)).1, (rw_si (by omega) (by omega) (by omega) (by omega) (by omega)).2⟩
 subst hM; subst h3
 have e : rwHi 1 (ptN W 3 + 1) W (W / 3 + 2) = lnHi W := lnHi_pt W
 rw [← e]
 exact h
end Go.Proofs.YtdonaominffpnaaGreatDoor
namespace Go.Proofs.YtdonaominffpnaaGreatDoor
set_option maxRecDepth 100000
set_option maxHeartbeats 8000000
set_option linter.unusedVariables false
open Go.RowKit
theorem fineLn2_any (W : Nat) (w : World) (hW : 16 ≤ W ∧ W ≤ 1000) (hv : lnLo W ≤ lnHi W) :
  Calls Tryz.prog 217 #[.int .i64 (W : Nat)] w (OuB w (lnLo W * 2) (lnHi W * 2) W 60) := by
 obtain ⟨M0, M, a_M, b_M, k_M, e_M⟩ : ∃ M0 M : Nat, IntKind.i64.wrap ((W : Int).tdiv 3) = (M0 : Int) ∧ IntKind.i64.wrap ((M0 : Int) + 2) = (M : Int) ∧ (1 ≤ M ∧ M ≤ 400) ∧ W / 3 + 2 = M := ⟨W / 3, W / 3 + 2, by rw [Int.tdiv_eq_ediv_of_nonneg (by omega), wrapK (by omega) (by omega)]; omega, by rw [wrapK (by omega) (by omega)]; omega, by omega, rfl⟩
 obtain ⟨P1, hP1⟩ : ∃ e, lnLo W = e := ⟨_, rfl⟩
 obtain ⟨R1, hR1⟩ : ∃ e, lnHi W = e := ⟨_, rfl⟩
 rw [hP1, hR1] at hv ⊢
 have HP1 := Lib.hid hP1; have HR1 := Lib.hid hR1; have HEM := Lib.hid e_M; clear hP1 hR1 e_M
 have HKM : Hid (((W : Int) / 3 + 2) = (M : Int)) := Lib.hid (by have := HEM.out; omega)
 go_enter Tryz.func217, Tryz.ntmps217
 go_wp2_with fail
 refine al1c fun v1 hb x_r => ?_
 replace x_r := Lx.of x_r
 have q_r := x_r.al
 clear q_r
 go_wp2_with fail
 with_reducible refine (lnPart_any W 3 M 3 rfl _ hW (by omega) (by decide) HEM.out _ HKM.out rfl).mono ?_
 rintro e v2 ⟨A5, n5, c5, A6, n6, c6, rfl, z5, z6, hb1⟩
 obtain ⟨x_r, hb⟩ := mv2 hb1 x_r hb
 clear hb1
 rw [HP1.out] at z5 ⊢; rw [HR1.out] at z6 ⊢
 go_wp2_with fail
 with_reducible refine (Ctimes_any z5.zr z6.zr 2 (by omega) ⟨by omega, by omega, hv⟩).mono ?_
 rintro e v3 ⟨A7, n7, c7, A8, n8, c8, rfl, z7, z8, hb1⟩
 obtain ⟨x_r, z5, z6, hb⟩ := mv4 hb1 x_r z5 z6 hb
 clear hb1
 have q_r := x_r.al
 go_wp2
 clear q_r
 refine x_r.st fun v4 hs hx => ?_
 obtain ⟨z5, z6, z7, z8, hb⟩ := ms5 hs ⟨trivial, trivial, trivial, trivial, by omega⟩ z5 z6 z7 z8 hb
 replace x_r := hx; clear hx hs
 have q_r := x_r.al
 skip
 refine bodyPost_ret (v := .agg #[.bool (ngB (P1 * 2)), .slice A7 n7 c7, .bool (ngB (R1 * 2)), .slice A8 n8 c8, .int .i64 (W : Int)]) (by simp [results, Tryz.results217, go_sem, q_r]) rfl ?_
 exact ⟨_, _, _, _, _, _, rfl, z7, z8, hb⟩
theorem rounded_yes {fid : Nat} (hent : ∀ (args : Array Value) (w : World), (callFunc fid args).run Tryz.prog w = .ok (.enter fid args) w) (X Y : Int) (q : Nat) (w : World) (hq : q ≤ 900) (hXY : X ≤ Y)
  (hat : ∀ w' : World, Calls Tryz.prog fid #[.int .i64 ((q + 16 : Nat) : Int)] w' (OuB w' X Y ((q + 16 : Nat) : Int) 61)) :
  Calls Tryz.prog 216 #[.func (.func fid) #[] #[], .int .i64 (q : Nat)] w (OuL w (X / 65536) (-(-Y / 65536)) q 200) := by
 have e0 := fl16 X q
 have e1 := fl16 (-Y) q
 obtain ⟨W, hWq⟩ : ∃ W, q + 16 = W := ⟨_, rfl⟩
 rw [hWq] at hat
 have a_W : IntKind.i64.wrap ((q : Int) + 16) = (W : Int) := by rw [wrapK (by omega) (by omega)]; omega
 have hc : ((q : Int) + 16) = (W : Int) := by omega
 rw [hc] at e0 e1
 obtain ⟨L0, hL0⟩ : ∃ e, X / 65536 = e := ⟨_, rfl⟩
 obtain ⟨H0, hH0⟩ : ∃ e, -(-Y / 65536) = e := ⟨_, rfl⟩
 rw [hL0] at e0
 rw [hL0, hH0]
 have e2 : -flI (-Y) (-(W : Int) + q) = H0 := by rw [e1]; exact hH0
 have HFl := Lib.hid e0; have HFh := Lib.hid e2; have HAT := Lib.hid hat; have HXY := Lib.hid hXY; have HC := Lib.hid hc
 have hW : 16 ≤ W ∧ W ≤ 1000 := by omega
 clear hL0 hH0 e0 e1 e2 hat hXY hWq hc
 go_enter Tryz.func216, Tryz.ntmps216
 go_wp2_with fail
 refine al1c fun v1 hb x_r => ?_
 replace x_r := Lx.of x_r
 have q_r := x_r.al
 clear q_r
 go_wp2_with fail
 with_reducible refine (HAT.out _).mono ?_
 rintro e v2 ⟨A5, n5, c5, A6, n6, c6, rfl, z5, z6, hb1⟩
 obtain ⟨x_r, hb⟩ := mv2 hb1 x_r hb
 clear hb1
 go_wp2_with fail
 with_reducible refine (Recast_yes z5.zr z6.zr q ⟨by omega, by omega, HXY.out⟩ (by omega) 200 (by omega) (by omega) (by omega)).mono ?_
 rintro e v3 ⟨A17, n17, c17, A18, n18, c18, rfl, z17, z18, hb1⟩
 obtain ⟨x_r, z5, z6, hb⟩ := mv4 hb1 x_r z5 z6 hb
 clear hb1
 rw [HFl.out] at z17 ⊢; rw [HFh.out] at z18 ⊢
 have q_r := x_r.al
 go_wp2
 clear q_r
 refine x_r.st fun v4 hs hx => ?_
 obtain ⟨z5, z6, z17, z18, hb⟩ := ms5 hs ⟨trivial, trivial, trivial, trivial, by omega⟩ z5 z6 z17 z18 hb
 replace x_r := hx; clear hx hs
 have q_r := x_r.al
 skip
 refine bodyPost_ret (v := .tuple #[.agg #[.bool (ngB L0), .slice A17 n17 c17, .bool (ngB H0), .slice A18 n18 c18, .int .i64 (q : Int)], .int .i64 0]) (by simp [results, Tryz.results216, go_sem, q_r]) rfl ?_
 exact ⟨_, _, _, _, _, _, rfl, z17, z18, hb⟩
theorem ent_fineLn2 : ∀ (args : Array Value) (w : World), (callFunc 217 args).run Tryz.prog w = .ok (.enter 217 args) w := enters_of Tryz.func217 (by kernel_rfl) rfl
theorem OuB.wide {w w' : World} {X Y q : Int} {k j : Nat} {e : Ending} (h : OuB w X Y q k e w') (hk : k ≤ j) : OuB w X Y q j e w' := by
 obtain ⟨A, n, c, A2, n2, c2, rfl, z, z2, hb⟩ := h
 exact ⟨A, n, c, A2, n2, c2, rfl, z.wide hk, z2.wide hk, hb⟩
theorem lnRounded (q : Nat) (w : World) (hq : q < 341) : Calls Tryz.prog 216 #[.func (.func 217) #[] #[], .int .i64 (q : Nat)] w (OuL w (lnA q) (lnZ q) q 200) := by
 have hv := (ln_in hq).1
 have h := rounded_yes ent_fineLn2 (lnLo (q + 16) * 2) (lnHi (q + 16) * 2) q w (by omega) (by omega) (fun w' => (fineLn2_any (q + 16) w' (by omega) hv).mono fun e w2 he => he.wide (by omega))
 rw [show lnLo (q + 16) * 2 / 65536 = lnA q by unfold lnA; rw [Int.mul_comm], show -(-(lnHi (q + 16) * 2) / 65536) = lnZ q by unfold lnZ; rw [Int.mul_comm]] at h
 exact h
theorem KLn2_yes (q : Nat) (w : World) (hq : q < 341) :
  Calls Tryz.prog 208 #[.int .i64 (q : Nat)] w (OuL w (lnA q) (lnZ q) q 200) := by
 obtain ⟨L0, hL0⟩ : ∃ e, lnA q = e := ⟨_, rfl⟩
 obtain ⟨H0, hH0⟩ : ∃ e, lnZ q = e := ⟨_, rfl⟩
 have hr := fun w => lnRounded q w hq
 rw [hL0, hH0] at hr ⊢
 have HRN := Lib.hid hr; clear hr hL0 hH0 hq
 go_enter Tryz.func208, Tryz.ntmps208
 go_wp2_with fail
 refine al1c fun v1 hb x_r => ?_
 replace x_r := Lx.of x_r
 have q_r := x_r.al
 clear q_r
 go_wp2_with fail
 with_reducible refine (HRN.out _).mono ?_
 rintro e v2 ⟨A17, n17, c17, A18, n18, c18, rfl, z17, z18, hb1⟩
 obtain ⟨x_r, hb⟩ := mv2 hb1 x_r hb
 clear hb1
 have q_r := x_r.al
 go_wp2
 clear q_r
 refine x_r.st fun v3 hs hx => ?_
 obtain ⟨z17, z18, hb⟩ := ms3 hs ⟨trivial, trivial, by omega⟩ z17 z18 hb
 replace x_r := hx; clear hx hs
 have q_r := x_r.al
 skip
 refine bodyPost_ret (v := .tuple #[.agg #[.bool (ngB L0), .slice A17 n17 c17, .bool (ngB H0), .slice A18 n18 c18, .int .i64 (q : Int)], .int .i64 0]) (by simp [results, Tryz.results208, go_sem, q_r]) rfl ?_
 exact ⟨_, _, _, _, _, _, rfl, z17, z18, hb⟩
end Go.Proofs.YtdonaominffpnaaGreatDoor
