/-
 point: power, nearest.
-/
import Derived.Test.YtdonaominffpnaaGreatDoorGnum
import Derived.Test.YtdonaominffpnaaGreatDoorEbox
import Derived.Test.YtdonaominffpnaaGreatDoorLpoint
import Derived.Test.YtdonaominffpnaaGreatDoorLnewn
import Derived.Test.YtdonaominffpnaaGreatDoorKsum
namespace Go.Proofs.YtdonaominffpnaaGreatDoor
variable {A : Option Addr} {X : Int} {c k n : Nat} {v wx : World}
set_option maxRecDepth 100000
set_option maxHeartbeats 4000000
set_option linter.unusedVariables false
open Go.RowKit
variable {b b2 b3 b4 : Bool} {A A2 A3 A4 : Option Addr} {n c n2 c2 n3 c3 n4 c4 j j2 : Nat} {X Y U V q e : Int} {w : World}
theorem power_any (s : Nat) (hs : s ≤ 2048) :
  Calls Tryz.prog 32 #[.int .i64 (s : Nat)] w (OutZ w (2 ^ s) 130) := by
 have HSC : Hid (sc (s : Int) = s) := Lib.hid (sc_nat (by omega))
 go_enter Tryz.func32, Tryz.ntmps32
 go_wp2_with fail
 refine al1c fun v1 hb x_r => ?_
 replace x_r := Bx.of x_r
 have q_r := x_r.al
 clear q_r
 skip
 with_reducible refine (ZOf_any 1 (by omega) (by omega)).mono ?_
 rintro e v2 ⟨A1, n1, c1, rfl, z1, hb1⟩
 obtain ⟨x_r, hb⟩ := mv2 hb1 x_r hb
 clear hb1
 go_wp2_with fail
 with_reducible refine (ZShl_any z1.zr (s : Int) 130 (by omega) (by omega)).mono ?_
 rintro e v3 ⟨A3, n3, c3, rfl, z3, hb1⟩
 obtain ⟨x_r, z1, hb⟩ := mv3 hb1 x_r z1 hb
 clear hb1
 rw [HSC.out, Int.one_mul] at z3 ⊢
 have q_r := x_r.al
 go_wp2
 clear q_r
 refine x_r.st fun v4 hs hx => ?_
 obtain ⟨z3, hb⟩ := ms2 hs ⟨trivial, by omega⟩ z3 hb
 replace x_r := hx; clear hx hs
 have q_r := x_r.al
 skip
 refine bodyPost_ret (v := .agg #[.bool (ngB (2 ^ s)), .slice A3 n3 c3]) (by simp [results, Tryz.results32, go_sem, q_r]) rfl ?_
 exact ⟨_, _, _, rfl, z3, hb⟩
def BnNew1 (v : World) (X : Int) (k : Nat) (s : Value) (wx : World) : Prop :=
 ∃ g A n c, s = .pointer (some ⟨g, 0, none⟩) ∧ Bx wx g (ngB X) A n c ∧ Zn wx A n c X k ∧ v.heap.size ≤ g ∧ Below v.heap.size v wx
theorem BnNew1.put {g m d : Nat} {p : Bool} {B : Option Addr} (hv : Below v.heap.size v wx) (x : Bx wx g p B m d) (hg : v.heap.size ≤ g) (z : Zn wx A n c X k) :
  BnNew1 v X k (.pointer (some ⟨g, 0, none⟩)) ((wx.setCell ⟨g, 0, none⟩ (.bool (ngB X))).setCell ⟨g, 1, none⟩ (.slice A n c)) :=
 ⟨g, A, n, c, rfl, x.put _ _ _ _, z.put x, hg, put_below hv hg _ _⟩
theorem BnNew1.new (hv : Below v.heap.size v wx) (z : Zn wx A n c X k) :
  BnNew1 v X k (.pointer (some ⟨wx.heap.size, 0, none⟩)) (wx.alloc (.cells #[.bool (ngB X), .slice A n c] 24)) :=
 ⟨wx.heap.size, A, n, c, rfl, Bx.new _ _ _ _ _, z.keep (below_alloc _ _), hv.size, bthen hv (below_alloc _ _)⟩
theorem nearest_any (h : Zr w b A n c X 40) (h2 : Zr w b2 A2 n2 c2 Y 40) (s : Nat) (hs : s ≤ 2048) :
  Calls Tryz.prog 30 #[.agg #[.bool b, .slice A n c], .agg #[.bool b2, .slice A2 n2 c2], .int .i64 (s : Nat)] w (OutZ w (npI X Y (2 ^ s)) 200) := by
 have HSC : Hid (sc (s : Int) = s) := Lib.hid (sc_nat (by omega))
 obtain ⟨T, hT⟩ : ∃ T : Int, 2 ^ s = T := ⟨_, rfl⟩
 have HPW : Hid (∀ w, Calls Tryz.prog 32 #[.int .i64 (s : Nat)] w (OutZ w T 130)) := Lib.hid (fun w => by rw [← hT]; exact power_any s hs)
 have HT := Lib.hid hT; rw [hT]; clear hT
 obtain ⟨D, hD⟩ : ∃ D : Int, X / T * T = D := ⟨_, rfl⟩
 have HNP : Hid (npI X Y T = if D + T ≤ Y then 0 else min (X - D) (D + T - Y)) := Lib.hid (by rw [← hD]; rfl)
 have HD := Lib.hid hD; clear hD
 have hs2 : (s : Int) ≤ 2048 := by omega
 obtain ⟨N, hN⟩ : ∃ N : Int, D + T = N := ⟨_, rfl⟩
 rw [hN] at HNP; have HN := Lib.hid hN; clear hN
 have hc := sgn_le (X := N) (Y := Y)
 obtain ⟨C, hC⟩ : ∃ C, sgnI (N - Y) = C := ⟨_, rfl⟩
 rw [hC] at hc; have HC := Lib.hid hC; clear hC
 obtain ⟨P, hP⟩ : ∃ P, X - D = P := ⟨_, rfl⟩
 obtain ⟨R, hR⟩ : ∃ R, N - Y = R := ⟨_, rfl⟩
 rw [hP, hR] at HNP; have HP := Lib.hid hP; have HR := Lib.hid hR; clear hP hR
 have hd : sgnI (P - R) < 0 ↔ P < R := by have := sgnI_lt0 (X := P - R); omega
 obtain ⟨C2, hC2⟩ : ∃ C, sgnI (P - R) = C := ⟨_, rfl⟩
 rw [hC2] at hd; have HC2 := Lib.hid hC2; clear hC2
 go_enter Tryz.func30, Tryz.ntmps30
 go_wp2_with fail
 refine al3c fun v1 hb x_lo x_hi x_r => ?_
 replace x_lo := Bx.of x_lo; replace x_hi := Bx.of x_hi; replace x_r := Bx.of x_r
 obtain ⟨h, h2⟩ := mv2 hb h h2
 have q_lo := x_lo.al
 have q_hi := x_hi.al
 have q_r := x_r.al
 clear q_r
 skip
 with_reducible refine (ZShr_any h (s : Int) 41 (by omega) (by omega)).mono ?_
 rintro e v2 ⟨A1, n1, c1, rfl, z1, hb1⟩
 obtain ⟨x_lo, x_hi, x_r, h, h2, hb⟩ := mv6 hb1 x_lo x_hi x_r h h2 hb
 clear hb1
 replace q_lo := x_lo.al
 replace q_hi := x_hi.al
 rw [HSC.out, HT.out] at z1 ⊢
 go_wp2_with fail
 with_reducible refine (ZShl_any z1.zr (s : Int) 170 (by omega) (by omega)).mono ?_
 rintro e v3 ⟨A3, n3, c3, rfl, z3, hb1⟩
 obtain ⟨x_lo, x_hi, x_r, h, h2, z1, hb⟩ := mv7 hb1 x_lo x_hi x_r h h2 z1 hb
 clear hb1
 replace q_lo := x_lo.al
 replace q_hi := x_hi.al
 rw [HSC.out, HT.out, HD.out] at z3 ⊢
 have y_lo := ((x_lo.alloc (.cells #[.bool (ngB D), .slice A3 n3 c3] 24))).al
 have y_hi := ((x_hi.alloc (.cells #[.bool (ngB D), .slice A3 n3 c3] 24))).al
 go_upto_region 2 with fail
 clear y_lo y_hi
 have l_lo_be := x_lo.lt
 have l_hi_be := x_hi.lt
 have l_r_be := x_r.lt
 have e_be : w.heap.size ≤ v3.heap.size := hb.size
 clear q_lo q_hi
 refine al1 fun v4 hb1 x_be => ?_
 replace x_be := Bx.of x_be
 obtain ⟨x_lo, x_hi, x_r, h, h2, z3, hb⟩ := mv7 hb1 x_lo x_hi x_r h h2 z3 hb
 clear hb1
 have q_lo := x_lo.al
 have q_hi := x_hi.al
 have q_be := x_be.al
 go_upto_region 2 with fail
 have hv := Below.refl v4.heap.size v4
 have l_lo_nx := x_lo.lt
 have l_hi_nx := x_hi.lt
 have l_r_nx := x_r.lt
 have l_be_nx := x_be.lt
 go_cut [8] (fun s9 wx => BnNew1 v4 N 180 s9 wx)
 case first =>
  go_region_held3 (fun w' => w'.cell? ⟨v3.heap.size, 0, none⟩ = some (.bool (ngB D)) ∧ w'.cell? ⟨v3.heap.size, 1, none⟩ = some (.slice A3 n3 c3))
   (first | (with_reducible exact ⟨x_be.c0, x_be.c1⟩) | (with_reducible exact ⟨(x_be.alloc _).c0, (x_be.alloc _).c1⟩) | (with_reducible exact ⟨(x_be.aside (by omega)).c0, (x_be.aside (by omega)).c1⟩) | (with_reducible exact ⟨((x_be.alloc _).aside (by omega)).c0, ((x_be.alloc _).aside (by omega)).c1⟩) | go_keep)
   (first | (go_at_call 32; (with_reducible refine (HPW.out _).mono ?_); rintro e v5 ⟨A4, n4, c4, rfl, z4, hb1⟩; replace hb1 := undrew hb1; (try replace x_nx := x_nx.keep hb1); replace hv := bthen hv hb1; have hvs_v5 := hv.size; obtain ⟨x_lo, x_hi, x_r, x_be, h, h2, z3, hb⟩ := mv8 hb1 x_lo x_hi x_r x_be h h2 z3 hb; clear hb1; replace q_lo := x_lo.al; replace q_hi := x_hi.al; replace q_be := x_be.al; (try (obtain ⟨q_nx0, f_nx0, q_nx1, f_nx1⟩ := x_nx.al))) | (go_at_call 32; (with_reducible refine (HPW.out _).mono ?_); rintro e v5 ⟨A4, n4, c4, rfl, z4, hb1⟩; replace hb1 := undrew hb1; have x_nx := (Bx.new v4 false none 0 0).keep hb1; replace hb1 := bthen (below_alloc v4 (.cells #[.bool false, .slice none 0 0] 24)) hb1; replace hv := bthen hv hb1; have hvs_v5 := hv.size; obtain ⟨x_lo, x_hi, x_r, x_be, h, h2, z3, hb⟩ := mv8 hb1 x_lo x_hi x_r x_be h h2 z3 hb; clear hb1; replace q_lo := x_lo.al; replace q_hi := x_hi.al; replace q_be := x_be.al; (try (obtain ⟨q_nx0, f_nx0, q_nx1, f_nx1⟩ := x_nx.al))) | (go_at_call 23; (with_reducible refine (ZAdd_any z3.zr z4.zr 180 (by omega) (by omega) (by omega)).mono ?_); rintro e v6 ⟨A5, n5, c5, rfl, z5, hb1⟩; (try replace x_nx := x_nx.keep hb1); replace hv := bthen hv hb1; have hvs_v6 := hv.size; obtain ⟨x_lo, x_hi, x_r, x_be, h, h2, z3, z4, hb⟩ := mv9 hb1 x_lo x_hi x_r x_be h h2 z3 z4 hb; clear hb1; replace q_lo := x_lo.al; replace q_hi := x_hi.al; replace q_be := x_be.al; rw [HN.out] at z5 ⊢; (try (obtain ⟨q_nx0, f_nx0, q_nx1, f_nx1⟩ := x_nx.al))) | (go_at_call 23; (with_reducible refine (ZAdd_any (z3.keep (below_alloc v5 (.cells #[.bool false, .slice none 0 0] 24))).zr (z4.keep (below_alloc v5 (.cells #[.bool false, .slice none 0 0] 24))).zr 180 (by omega) (by omega) (by omega)).mono ?_); rintro e v6 ⟨A5, n5, c5, rfl, z5, hb1⟩; have x_nx := (Bx.new v5 false none 0 0).keep hb1; replace hb1 := bthen (below_alloc v5 (.cells #[.bool false, .slice none 0 0] 24)) hb1; replace hv := bthen hv hb1; have hvs_v6 := hv.size; obtain ⟨x_lo, x_hi, x_r, x_be, h, h2, z3, z4, hb⟩ := mv9 hb1 x_lo x_hi x_r x_be h h2 z3 z4 hb; clear hb1; replace q_lo := x_lo.al; replace q_hi := x_hi.al; replace q_be := x_be.al; rw [HN.out] at z5 ⊢; (try (obtain ⟨q_nx0, f_nx0, q_nx1, f_nx1⟩ := x_nx.al))))
  all_goals go_wp2_with fail
  all_goals go_meet
  all_goals first | (with_reducible exact BnNew1.new hv z5) | (with_reducible exact BnNew1.put hv x_nx (by omega) z5)
 obtain ⟨g7, Ax8, nx8, cx8, rfl, x_nx, z_nx, e_nx, hb1⟩ := hcut
 clear hv
 obtain ⟨x_lo, x_hi, x_r, x_be, h, h2, z3, hb⟩ := mv8 hb1 x_lo x_hi x_r x_be h h2 z3 hb
 clear hb1
 replace q_lo := x_lo.al
 replace q_hi := x_hi.al
 replace q_be := x_be.al
 clear q_lo q_hi q_be
 generalize wc = v9 at *
 have q_lo := x_lo.al
 have q_hi := x_hi.al
 have q_be := x_be.al
 have q_nx := x_nx.al
 go_wp2_with fail
 with_reducible refine (ZCmp_any z_nx.zr h2 (by omega) (by omega)).mono ?_
 rintro e v10 ⟨rfl, hb1⟩
 obtain ⟨x_lo, x_hi, x_r, x_be, x_nx, h, h2, z3, z_nx⟩ := mv9 hb1 x_lo x_hi x_r x_be x_nx h h2 z3 z_nx
 replace hb := Mv.mv hb hb1
 clear hb1
 replace q_lo := x_lo.al
 replace q_hi := x_hi.al
 replace q_be := x_be.al
 replace q_nx := x_nx.al
 rw [HC.out]
 by_cases hC : C ≤ 0
 ·have HN0 : Hid (npI X Y T = 0) := Lib.hid (by rw [HNP.out, if_pos (hc.1 hC)])
  clear hc hd
  have q_r := x_r.al
  go_wp2
  clear q_lo q_hi q_r q_be q_nx
  refine x_r.st fun v11 hs hx => ?_
  obtain ⟨x_lo, x_hi, x_be, x_nx, h, h2, z3, z_nx, hb⟩ := ms9 hs ⟨by omega, by omega, by omega, by omega, trivial, trivial, trivial, trivial, by omega⟩ x_lo x_hi x_be x_nx h h2 z3 z_nx hb
  replace x_r := hx; clear hx hs
  have q_lo := x_lo.al
  have q_hi := x_hi.al
  have q_r := x_r.al
  have q_be := x_be.al
  have q_nx := x_nx.al
  skip
  refine bodyPost_ret (v := .agg #[.bool false, .slice none 0 0]) (by simp [results, Tryz.results30, go_sem, q_r]) rfl ?_
  exact ⟨none, 0, 0, by rw [HN0.out]; rfl, by rw [HN0.out]; exact Zn.nul _ _, hb⟩
 ·have hn : ¬ N ≤ Y := fun k => hC (hc.2 k)
  clear hc
  go_upto_region 5 with fail
  have hv := Below.refl v10.heap.size v10
  have l_lo_af := x_lo.lt
  have l_hi_af := x_hi.lt
  have l_r_af := x_r.lt
  have l_be_af := x_be.lt
  have l_nx_af := x_nx.lt
  go_cut [9, 10] (fun s9 t9 wx => BnNew2 v10 P R 180 190 s9 t9 wx)
  case first =>
   go_region_held3 (fun w' => w'.cell? ⟨w.heap.size, 0, none⟩ = some (.bool b) ∧ w'.cell? ⟨w.heap.size, 1, none⟩ = some (.slice A n c) ∧ w'.cell? ⟨v3.heap.size, 0, none⟩ = some (.bool (ngB D)) ∧ w'.cell? ⟨v3.heap.size, 1, none⟩ = some (.slice A3 n3 c3) ∧ w'.cell? ⟨g7, 0, none⟩ = some (.bool (ngB N)) ∧ w'.cell? ⟨g7, 1, none⟩ = some (.slice Ax8 nx8 cx8) ∧ w'.cell? ⟨w.heap.size + 1, 0, none⟩ = some (.bool b2) ∧ w'.cell? ⟨w.heap.size + 1, 1, none⟩ = some (.slice A2 n2 c2))
    (first | (with_reducible exact ⟨x_lo.c0, x_lo.c1, x_be.c0, x_be.c1, x_nx.c0, x_nx.c1, x_hi.c0, x_hi.c1⟩) | (with_reducible exact ⟨(x_lo.alloc _).c0, (x_lo.alloc _).c1, (x_be.alloc _).c0, (x_be.alloc _).c1, (x_nx.alloc _).c0, (x_nx.alloc _).c1, (x_hi.alloc _).c0, (x_hi.alloc _).c1⟩) | (with_reducible exact ⟨((x_lo.alloc _).alloc _).c0, ((x_lo.alloc _).alloc _).c1, ((x_be.alloc _).alloc _).c0, ((x_be.alloc _).alloc _).c1, ((x_nx.alloc _).alloc _).c0, ((x_nx.alloc _).alloc _).c1, ((x_hi.alloc _).alloc _).c0, ((x_hi.alloc _).alloc _).c1⟩) | (with_reducible exact ⟨(x_lo.aside (by omega)).c0, (x_lo.aside (by omega)).c1, (x_be.aside (by omega)).c0, (x_be.aside (by omega)).c1, (x_nx.aside (by omega)).c0, (x_nx.aside (by omega)).c1, (x_hi.aside (by omega)).c0, (x_hi.aside (by omega)).c1⟩) | (with_reducible exact ⟨((x_lo.alloc _).aside (by omega)).c0, ((x_lo.alloc _).aside (by omega)).c1, ((x_be.alloc _).aside (by omega)).c0, ((x_be.alloc _).aside (by omega)).c1, ((x_nx.alloc _).aside (by omega)).c0, ((x_nx.alloc _).aside (by omega)).c1, ((x_hi.alloc _).aside (by omega)).c0, ((x_hi.alloc _).aside (by omega)).c1⟩) | (with_reducible exact ⟨((x_lo.aside (by omega)).alloc _).c0, ((x_lo.aside (by omega)).alloc _).c1, ((x_be.aside (by omega)).alloc _).c0, ((x_be.aside (by omega)).alloc _).c1, ((x_nx.aside (by omega)).alloc _).c0, ((x_nx.aside (by omega)).alloc _).c1, ((x_hi.aside (by omega)).alloc _).c0, ((x_hi.aside (by omega)).alloc _).c1⟩) | (with_reducible exact ⟨(((x_lo.alloc _).alloc _).aside (by omega)).c0, (((x_lo.alloc _).alloc _).aside (by omega)).c1, (((x_be.alloc _).alloc _).aside (by omega)).c0, (((x_be.alloc _).alloc _).aside (by omega)).c1, (((x_nx.alloc _).alloc _).aside (by omega)).c0, (((x_nx.alloc _).alloc _).aside (by omega)).c1, (((x_hi.alloc _).alloc _).aside (by omega)).c0, (((x_hi.alloc _).alloc _).aside (by omega)).c1⟩) | (with_reducible exact ⟨((x_lo.aside (by omega)).aside (by omega)).c0, ((x_lo.aside (by omega)).aside (by omega)).c1, ((x_be.aside (by omega)).aside (by omega)).c0, ((x_be.aside (by omega)).aside (by omega)).c1, ((x_nx.aside (by omega)).aside (by omega)).c0, ((x_nx.aside (by omega)).aside (by omega)).c1, ((x_hi.aside (by omega)).aside (by omega)).c0, ((x_hi.aside (by omega)).aside (by omega)).c1⟩) | (with_reducible exact ⟨(((x_lo.alloc _).aside (by omega)).aside (by omega)).c0, (((x_lo.alloc _).aside (by omega)).aside (by omega)).c1, (((x_be.alloc _).aside (by omega)).aside (by omega)).c0, (((x_be.alloc _).aside (by omega)).aside (by omega)).c1, (((x_nx.alloc _).aside (by omega)).aside (by omega)).c0, (((x_nx.alloc _).aside (by omega)).aside (by omega)).c1, (((x_hi.alloc _).aside (by omega)).aside (by omega)).c0, (((x_hi.alloc _).aside (by omega)).aside (by omega)).c1⟩) | (with_reducible exact ⟨((((x_lo.alloc _).alloc _).aside (by omega)).aside (by omega)).c0, ((((x_lo.alloc _).alloc _).aside (by omega)).aside (by omega)).c1, ((((x_be.alloc _).alloc _).aside (by omega)).aside (by omega)).c0, ((((x_be.alloc _).alloc _).aside (by omega)).aside (by omega)).c1, ((((x_nx.alloc _).alloc _).aside (by omega)).aside (by omega)).c0, ((((x_nx.alloc _).alloc _).aside (by omega)).aside (by omega)).c1, ((((x_hi.alloc _).alloc _).aside (by omega)).aside (by omega)).c0, ((((x_hi.alloc _).alloc _).aside (by omega)).aside (by omega)).c1⟩) | go_keep)
    (first | (go_at_call 21; (with_reducible refine (ZSub_any h.drw z3.drw.zr 180 (by omega) (by omega) (by omega)).mono ?_); rintro e v11 ⟨A6, n6, c6, rfl, z6, hb1⟩; replace hb1 := undrew hb1; (try replace x_n1 := x_n1.keep hb1); (try replace x_n2 := x_n2.keep hb1); replace hv := bthen hv hb1; have hvs_v11 := hv.size; obtain ⟨x_lo, x_hi, x_r, x_be, x_nx, h, h2, z3, z_nx⟩ := mv9 hb1 x_lo x_hi x_r x_be x_nx h h2 z3 z_nx; replace hb := Mv.mv hb hb1; clear hb1; replace q_lo := x_lo.al; replace q_hi := x_hi.al; replace q_be := x_be.al; replace q_nx := x_nx.al; rw [HP.out] at z6 ⊢; (try (obtain ⟨q_n10, f_n10, q_n11, f_n11⟩ := x_n1.al; have lt_n1 := x_n1.lt; have y_n1 := x_n1.alloc (.cells #[.bool false, .slice none 0 0] 24); have qy_n10 := y_n1.c0; have fy_n10 := y_n1.fr 0; have qy_n11 := y_n1.c1; have fy_n11 := y_n1.fr 1)); (try (obtain ⟨q_n20, f_n20, q_n21, f_n21⟩ := x_n2.al; have lt_n2 := x_n2.lt; have y_n2 := x_n2.alloc (.cells #[.bool false, .slice none 0 0] 24); have qy_n20 := y_n2.c0; have fy_n20 := y_n2.fr 0; have qy_n21 := y_n2.c1; have fy_n21 := y_n2.fr 1))) | (go_at_call 21; (with_reducible refine (ZSub_any (h.keep (below_alloc v10 (.cells #[.bool false, .slice none 0 0] 24))).drw (z3.keep (below_alloc v10 (.cells #[.bool false, .slice none 0 0] 24))).drw.zr 180 (by omega) (by omega) (by omega)).mono ?_); rintro e v11 ⟨A6, n6, c6, rfl, z6, hb1⟩; replace hb1 := undrew hb1; (first | (have lt_n := x_n1.lt; replace x_n1 := x_n1.keep (bthen (below_alloc v10 (.cells #[.bool false, .slice none 0 0] 24)) hb1); have x_n2 := (Bx.new v10 false none 0 0).keep hb1) | (have x_n1 := (Bx.new v10 false none 0 0).keep hb1)); replace hb1 := bthen (below_alloc v10 (.cells #[.bool false, .slice none 0 0] 24)) hb1; replace hv := bthen hv hb1; have hvs_v11 := hv.size; obtain ⟨x_lo, x_hi, x_r, x_be, x_nx, h, h2, z3, z_nx⟩ := mv9 hb1 x_lo x_hi x_r x_be x_nx h h2 z3 z_nx; replace hb := Mv.mv hb hb1; clear hb1; replace q_lo := x_lo.al; replace q_hi := x_hi.al; replace q_be := x_be.al; replace q_nx := x_nx.al; rw [HP.out] at z6 ⊢; (try (obtain ⟨q_n10, f_n10, q_n11, f_n11⟩ := x_n1.al; have lt_n1 := x_n1.lt; have y_n1 := x_n1.alloc (.cells #[.bool false, .slice none 0 0] 24); have qy_n10 := y_n1.c0; have fy_n10 := y_n1.fr 0; have qy_n11 := y_n1.c1; have fy_n11 := y_n1.fr 1)); (try (obtain ⟨q_n20, f_n20, q_n21, f_n21⟩ := x_n2.al; have lt_n2 := x_n2.lt; have y_n2 := x_n2.alloc (.cells #[.bool false, .slice none 0 0] 24); have qy_n20 := y_n2.c0; have fy_n20 := y_n2.fr 0; have qy_n21 := y_n2.c1; have fy_n21 := y_n2.fr 1))) | (go_at_call 21; (with_reducible refine (ZSub_any (h.keep (below_alloc2 v10 (.cells #[.bool false, .slice none 0 0] 24) (.cells #[.bool false, .slice none 0 0] 24))).drw (z3.keep (below_alloc2 v10 (.cells #[.bool false, .slice none 0 0] 24) (.cells #[.bool false, .slice none 0 0] 24))).drw.zr 180 (by omega) (by omega) (by omega)).mono ?_); rintro e v11 ⟨A6, n6, c6, rfl, z6, hb1⟩; replace hb1 := undrew hb1; have x_n1 := ((Bx.new v10 false none 0 0).alloc (.cells #[.bool false, .slice none 0 0] 24)).keep hb1; have x_n2 := (Bx.at_size (alloc_size v10 (.cells #[.bool false, .slice none 0 0] 24)) : Bx ((v10.alloc (.cells #[.bool false, .slice none 0 0] 24)).alloc (.cells #[.bool false, .slice none 0 0] 24)) (v10.heap.size + 1) false none 0 0).keep hb1; replace hb1 := bthen (below_alloc2 v10 (.cells #[.bool false, .slice none 0 0] 24) (.cells #[.bool false, .slice none 0 0] 24)) hb1; replace hv := bthen hv hb1; have hvs_v11 := hv.size; obtain ⟨x_lo, x_hi, x_r, x_be, x_nx, h, h2, z3, z_nx⟩ := mv9 hb1 x_lo x_hi x_r x_be x_nx h h2 z3 z_nx; replace hb := Mv.mv hb hb1; clear hb1; replace q_lo := x_lo.al; replace q_hi := x_hi.al; replace q_be := x_be.al; replace q_nx := x_nx.al; rw [HP.out] at z6 ⊢; (try (obtain ⟨q_n10, f_n10, q_n11, f_n11⟩ := x_n1.al; have lt_n1 := x_n1.lt; have y_n1 := x_n1.alloc (.cells #[.bool false, .slice none 0 0] 24); have qy_n10 := y_n1.c0; have fy_n10 := y_n1.fr 0; have qy_n11 := y_n1.c1; have fy_n11 := y_n1.fr 1)); (try (obtain ⟨q_n20, f_n20, q_n21, f_n21⟩ := x_n2.al; have lt_n2 := x_n2.lt; have y_n2 := x_n2.alloc (.cells #[.bool false, .slice none 0 0] 24); have qy_n20 := y_n2.c0; have fy_n20 := y_n2.fr 0; have qy_n21 := y_n2.c1; have fy_n21 := y_n2.fr 1))) | (go_at_call 21; (with_reducible refine (ZSub_any z_nx.zr h2 190 (by omega) (by omega) (by omega)).mono ?_); rintro e v12 ⟨A7, n7, c7, rfl, z7, hb1⟩; (try replace x_n1 := x_n1.keep hb1); (try replace x_n2 := x_n2.keep hb1); replace hv := bthen hv hb1; have hvs_v12 := hv.size; obtain ⟨x_lo, x_hi, x_r, x_be, x_nx, h, h2, z3, z_nx⟩ := mv9 hb1 x_lo x_hi x_r x_be x_nx h h2 z3 z_nx; obtain ⟨z6, hb⟩ := mv2 hb1 z6 hb; clear hb1; replace q_lo := x_lo.al; replace q_hi := x_hi.al; replace q_be := x_be.al; replace q_nx := x_nx.al; rw [HR.out] at z7 ⊢; (try (obtain ⟨q_n10, f_n10, q_n11, f_n11⟩ := x_n1.al; have lt_n1 := x_n1.lt; have y_n1 := x_n1.alloc (.cells #[.bool false, .slice none 0 0] 24); have qy_n10 := y_n1.c0; have fy_n10 := y_n1.fr 0; have qy_n11 := y_n1.c1; have fy_n11 := y_n1.fr 1)); (try (obtain ⟨q_n20, f_n20, q_n21, f_n21⟩ := x_n2.al; have lt_n2 := x_n2.lt; have y_n2 := x_n2.alloc (.cells #[.bool false, .slice none 0 0] 24); have qy_n20 := y_n2.c0; have fy_n20 := y_n2.fr 0; have qy_n21 := y_n2.c1; have fy_n21 := y_n2.fr 1))) | (go_at_call 21; (with_reducible refine (ZSub_any (z_nx.keep (below_alloc v11 (.cells #[.bool false, .slice none 0 0] 24))).zr (h2.keep (below_alloc v11 (.cells #[.bool false, .slice none 0 0] 24))) 190 (by omega) (by omega) (by omega)).mono ?_); rintro e v12 ⟨A7, n7, c7, rfl, z7, hb1⟩; (first | (have lt_n := x_n1.lt; replace x_n1 := x_n1.keep (bthen (below_alloc v11 (.cells #[.bool false, .slice none 0 0] 24)) hb1); have x_n2 := (Bx.new v11 false none 0 0).keep hb1) | (have x_n1 := (Bx.new v11 false none 0 0).keep hb1)); replace hb1 := bthen (below_alloc v11 (.cells #[.bool false, .slice none 0 0] 24)) hb1; replace hv := bthen hv hb1; have hvs_v12 := hv.size; obtain ⟨x_lo, x_hi, x_r, x_be, x_nx, h, h2, z3, z_nx⟩ := mv9 hb1 x_lo x_hi x_r x_be x_nx h h2 z3 z_nx; obtain ⟨z6, hb⟩ := mv2 hb1 z6 hb; clear hb1; replace q_lo := x_lo.al; replace q_hi := x_hi.al; replace q_be := x_be.al; replace q_nx := x_nx.al; rw [HR.out] at z7 ⊢; (try (obtain ⟨q_n10, f_n10, q_n11, f_n11⟩ := x_n1.al; have lt_n1 := x_n1.lt; have y_n1 := x_n1.alloc (.cells #[.bool false, .slice none 0 0] 24); have qy_n10 := y_n1.c0; have fy_n10 := y_n1.fr 0; have qy_n11 := y_n1.c1; have fy_n11 := y_n1.fr 1)); (try (obtain ⟨q_n20, f_n20, q_n21, f_n21⟩ := x_n2.al; have lt_n2 := x_n2.lt; have y_n2 := x_n2.alloc (.cells #[.bool false, .slice none 0 0] 24); have qy_n20 := y_n2.c0; have fy_n20 := y_n2.fr 0; have qy_n21 := y_n2.c1; have fy_n21 := y_n2.fr 1))) | (go_at_call 21; (with_reducible refine (ZSub_any (z_nx.keep (below_alloc2 v11 (.cells #[.bool false, .slice none 0 0] 24) (.cells #[.bool false, .slice none 0 0] 24))).zr (h2.keep (below_alloc2 v11 (.cells #[.bool false, .slice none 0 0] 24) (.cells #[.bool false, .slice none 0 0] 24))) 190 (by omega) (by omega) (by omega)).mono ?_); rintro e v12 ⟨A7, n7, c7, rfl, z7, hb1⟩; have x_n1 := ((Bx.new v11 false none 0 0).alloc (.cells #[.bool false, .slice none 0 0] 24)).keep hb1; have x_n2 := (Bx.at_size (alloc_size v11 (.cells #[.bool false, .slice none 0 0] 24)) : Bx ((v11.alloc (.cells #[.bool false, .slice none 0 0] 24)).alloc (.cells #[.bool false, .slice none 0 0] 24)) (v11.heap.size + 1) false none 0 0).keep hb1; replace hb1 := bthen (below_alloc2 v11 (.cells #[.bool false, .slice none 0 0] 24) (.cells #[.bool false, .slice none 0 0] 24)) hb1; replace hv := bthen hv hb1; have hvs_v12 := hv.size; obtain ⟨x_lo, x_hi, x_r, x_be, x_nx, h, h2, z3, z_nx⟩ := mv9 hb1 x_lo x_hi x_r x_be x_nx h h2 z3 z_nx; obtain ⟨z6, hb⟩ := mv2 hb1 z6 hb; clear hb1; replace q_lo := x_lo.al; replace q_hi := x_hi.al; replace q_be := x_be.al; replace q_nx := x_nx.al; rw [HR.out] at z7 ⊢; (try (obtain ⟨q_n10, f_n10, q_n11, f_n11⟩ := x_n1.al; have lt_n1 := x_n1.lt; have y_n1 := x_n1.alloc (.cells #[.bool false, .slice none 0 0] 24); have qy_n10 := y_n1.c0; have fy_n10 := y_n1.fr 0; have qy_n11 := y_n1.c1; have fy_n11 := y_n1.fr 1)); (try (obtain ⟨q_n20, f_n20, q_n21, f_n21⟩ := x_n2.al; have lt_n2 := x_n2.lt; have y_n2 := x_n2.alloc (.cells #[.bool false, .slice none 0 0] 24); have qy_n20 := y_n2.c0; have fy_n20 := y_n2.fr 0; have qy_n21 := y_n2.c1; have fy_n21 := y_n2.fr 1))))
   all_goals go_wp2_with fail
   all_goals go_meet
   all_goals first | (with_reducible exact BnNew2.ll hv z6 z7) | (with_reducible exact BnNew2.mm hv z6 z7) | (with_reducible exact BnNew2.el hv x_n1 (by omega) z6 z7) | (with_reducible exact BnNew2.le hv x_n1 (by omega) z6 z7) | (with_reducible exact BnNew2.gl hv x_n1 (by omega) z6 z7) | (with_reducible exact BnNew2.lg hv x_n1 (by omega) z6 z7) | (with_reducible exact BnNew2.el hv x_n2 (by omega) z6 z7) | (with_reducible exact BnNew2.le hv x_n2 (by omega) z6 z7) | (with_reducible exact BnNew2.gl hv x_n2 (by omega) z6 z7) | (with_reducible exact BnNew2.lg hv x_n2 (by omega) z6 z7) | (with_reducible exact BnNew2.ee hv x_n1 (by omega) x_n2 (by omega) (by omega) z6 z7) | (with_reducible exact BnNew2.ff hv x_n1 (by omega) x_n2 (by omega) (by omega) z6 z7) | (with_reducible exact BnNew2.ee hv x_n2 (by omega) x_n1 (by omega) (by omega) z6 z7) | (with_reducible exact BnNew2.ff hv x_n2 (by omega) x_n1 (by omega) (by omega) z6 z7)
  case rest =>
   obtain ⟨g13, g14, Ax15, nx15, cx15, Ay15, ny15, cy15, rfl, rfl, ne_af, x_af, x_bf, z_af, z_bf, e_af, e_bf, hb1⟩ := hcut
   clear hv
   obtain ⟨x_lo, x_hi, x_r, x_be, x_nx, h, h2, z3, z_nx⟩ := mv9 hb1 x_lo x_hi x_r x_be x_nx h h2 z3 z_nx
   replace hb := Mv.mv hb hb1
   clear hb1
   replace q_lo := x_lo.al
   replace q_hi := x_hi.al
   replace q_be := x_be.al
   replace q_nx := x_nx.al
   clear q_lo q_hi q_be q_nx
   generalize wc = v16 at *
   have q_lo := x_lo.al
   have q_hi := x_hi.al
   have q_be := x_be.al
   have q_nx := x_nx.al
   have q_af := x_af.al
   have q_bf := x_bf.al
   go_wp2_with fail
   with_reducible refine (ZCmp_any z_af.zr z_bf.zr (by omega) (by omega)).mono ?_
   rintro e v17 ⟨rfl, hb1⟩
   obtain ⟨x_lo, x_hi, x_r, x_be, x_nx, x_af, x_bf, h, h2⟩ := mv9 hb1 x_lo x_hi x_r x_be x_nx x_af x_bf h h2
   obtain ⟨z3, z_nx, z_af, z_bf, hb⟩ := mv5 hb1 z3 z_nx z_af z_bf hb
   clear hb1
   replace q_lo := x_lo.al
   replace q_hi := x_hi.al
   replace q_be := x_be.al
   replace q_nx := x_nx.al
   replace q_af := x_af.al
   replace q_bf := x_bf.al
   rw [HC2.out]
   by_cases hC2 : C2 < 0
   ·have HN0 : Hid (npI X Y T = P) := Lib.hid (by rw [HNP.out, if_neg (by omega)]; omega)
    clear hd hn
    have q_r := x_r.al
    go_wp2
    clear q_lo q_hi q_r q_be q_nx q_af q_bf
    refine x_r.st fun v18 hs hx => ?_
    obtain ⟨x_lo, x_hi, x_be, x_nx, x_af, x_bf, h, h2, z3⟩ := ms9 hs ⟨by omega, by omega, by omega, by omega, by omega, by omega, trivial, trivial, trivial⟩ x_lo x_hi x_be x_nx x_af x_bf h h2 z3
    obtain ⟨z_nx, z_af, z_bf, hb⟩ := ms4 hs ⟨trivial, trivial, trivial, by omega⟩ z_nx z_af z_bf hb
    replace x_r := hx; clear hx hs
    have q_lo := x_lo.al
    have q_hi := x_hi.al
    have q_r := x_r.al
    have q_be := x_be.al
    have q_nx := x_nx.al
    have q_af := x_af.al
    have q_bf := x_bf.al
    skip
    refine bodyPost_ret (v := .agg #[.bool (ngB P), .slice Ax15 nx15 cx15]) (by simp [results, Tryz.results30, go_sem, q_r]) rfl ?_
    exact ⟨_, _, _, by rw [HN0.out], by rw [HN0.out]; exact z_af.wide (by omega), hb⟩
   ·have HN0 : Hid (npI X Y T = R) := Lib.hid (by rw [HNP.out, if_neg (by omega)]; omega)
    clear hd hn
    have q_r := x_r.al
    go_wp2
    clear q_lo q_hi q_r q_be q_nx q_af q_bf
    refine x_r.st fun v18 hs hx => ?_
    obtain ⟨x_lo, x_hi, x_be, x_nx, x_af, x_bf, h, h2, z3⟩ := ms9 hs ⟨by omega, by omega, by omega, by omega, by omega, by omega, trivial, trivial, trivial⟩ x_lo x_hi x_be x_nx x_af x_bf h h2 z3
    obtain ⟨z_nx, z_af, z_bf, hb⟩ := ms4 hs ⟨trivial, trivial, trivial, by omega⟩ z_nx z_af z_bf hb
    replace x_r := hx; clear hx hs
    have q_lo := x_lo.al
    have q_hi := x_hi.al
    have q_r := x_r.al
    have q_be := x_be.al
    have q_nx := x_nx.al
    have q_af := x_af.al
    have q_bf := x_bf.al
    skip
    refine bodyPost_ret (v := .agg #[.bool (ngB R), .slice Ay15 ny15 cy15]) (by simp [results, Tryz.results30, go_sem, q_r]) rfl ?_
    exact ⟨_, _, _, by rw [HN0.out], by rw [HN0.out]; exact z_bf.wide (by omega), hb⟩
end Go.Proofs.YtdonaominffpnaaGreatDoor
