/-
 point: Gap, Scale.
-/
import Derived.Test.YtdonaominffpnaaGreatDoorPnear
import Derived.Test.YtdonaominffpnaaGreatDoorKint
import Derived.Test.YtdonaominffpnaaGreatDoorLhas
namespace Go.Proofs.YtdonaominffpnaaGreatDoor
set_option maxRecDepth 100000
set_option maxHeartbeats 4000000
set_option linter.unusedVariables false
open Go.RowKit
variable {b b2 b3 b4 : Bool} {A A2 A3 A4 : Option Addr} {n c n2 c2 n3 c3 n4 c4 j j2 : Nat} {X Y U V q e : Int} {w : World}
theorem ga_si {s : Nat} (hs : s ≤ 2048) : Si ((2 : Int) ^ s / 2) 33 := by
 have p : (0 : Int) < twP s := tw_pos s
 have e : (2 : Int) ^ s = twP s := rfl
 rw [e]
 exact si_twL (K := 1) (Q := s) (by omega) (by omega) (by omega) (by omega)
def GpPost (w : World) (L M : Int) (e : Ending) (w' : World) : Prop := ∃ A n c A2 n2 c2, e = .returned (.tuple #[.agg #[.bool (ngB L), .slice A n c], .agg #[.bool (ngB M), .slice A2 n2 c2], .int .i64 0]) ∧ Zn w' A n c L 240 ∧ Zn w' A2 n2 c2 M 240 ∧ Below w.heap.size w w'
theorem Gap_yes (h : Zr w b A n c X 8) (h2 : Zr w b2 A2 n2 c2 Y 8) (hv : 0 ≤ q ∧ q ≤ 2048 ∧ X ≤ Y) (s : Nat) (hs : s ≤ 2048) :
  Calls Tryz.prog 10 #[.agg #[.bool b, .slice A n c, .bool b2, .slice A2 n2 c2, .int .i64 q], .int .i64 (s : Nat)] w (GpPost w (gaL X Y s) (gaM X Y s)) := by
 have HSC : Hid (sc (1 : Int) = 1) := Lib.hid rfl
 have HSI : Hid (Si (2 ^ s / 2) 33) := Lib.hid (ga_si hs)
 obtain ⟨T, hT⟩ : ∃ T : Int, 2 ^ s = T := ⟨_, rfl⟩
 obtain ⟨H, hH⟩ : ∃ H : Int, T / 2 = H := ⟨_, rfl⟩
 have HPW : Hid (∀ w, Calls Tryz.prog 32 #[.int .i64 (s : Nat)] w (OutZ w T 130)) := Lib.hid (fun w => by rw [← hT]; exact power_any s hs)
 have HRI := Lib.hid (rB_yes hv)
 have HSH : Hid (T / 2 ^ 1 = H) := Lib.hid hH
 have HNE := Lib.hid (fun w b b2 A A2 n n2 c c2 X Y (h : Zr w b A n c X 40) (h2 : Zr w b2 A2 n2 c2 Y 40) => nearest_any h h2 s hs)
 unfold gaL gaM
 rw [hT] at HNE HSI ⊢; rw [hH] at HSI ⊢; clear hT hH hv
 obtain ⟨L, hL⟩ : ∃ L : Int, npI X Y T = L := ⟨_, rfl⟩
 obtain ⟨B, hB⟩ : ∃ L : Int, npI (X - H) (Y - H) T = L := ⟨_, rfl⟩
 rw [hL, hB]
 have HL := Lib.hid hL; have HB := Lib.hid hB; clear hL hB
 have hs0 : 0 ≤ (s : Int) ∧ (s : Int) ≤ 2048 := by omega
 go_enter Tryz.func10, Tryz.ntmps10
 go_wp2_with fail
 refine al3c fun v1 hb x_b x_r x_t => ?_
 replace x_b := Lx.of x_b; replace x_r := Bx.of x_r; replace x_t := Bx.of x_t
 obtain ⟨h, h2⟩ := mv2 hb h h2
 have q_b := x_b.al
 have q_r := x_r.al
 have q_t := x_t.al
 clear q_r
 clear q_t
 skip
 with_reducible refine (Right_any h h2 (by omega) (by omega)).mono ?_
 rintro e v2 ⟨rfl, hb1⟩
 obtain ⟨x_b, x_r, x_t, h, h2, hb⟩ := mv6 hb1 x_b x_r x_t h h2 hb
 clear hb1
 replace q_b := x_b.al
 rw [HRI.out]
 go_wp2_with fail
 with_reducible refine (HNE.out _ _ _ _ _ _ _ _ _ _ _ (h.wide (by omega)) (h2.wide (by omega))).mono ?_
 rintro e v3 ⟨A3, n3, c3, rfl, z3, hb1⟩
 obtain ⟨x_b, x_r, x_t, h, h2, hb⟩ := mv6 hb1 x_b x_r x_t h h2 hb
 clear hb1
 replace q_b := x_b.al
 rw [HL.out] at z3 ⊢
 have y_b := ((x_b.alloc (.cells #[.bool (ngB L), .slice A3 n3 c3] 24))).al
 go_wp2_with fail
 clear y_b
 have l_b_l := x_b.lt
 have l_r_l := x_r.lt
 have l_t_l := x_t.lt
 have e_l : w.heap.size ≤ v3.heap.size := hb.size
 clear q_b
 refine al1c fun v4 hb1 x_l => ?_
 replace x_l := Bx.of x_l
 obtain ⟨x_b, x_r, x_t, h, h2, z3, hb⟩ := mv7 hb1 x_b x_r x_t h h2 z3 hb
 clear hb1
 have q_b := x_b.al
 have q_l := x_l.al
 skip
 with_reducible refine (HPW.out _).mono ?_
 rintro e v5 ⟨A5, n5, c5, rfl, z5, hb1⟩
 obtain ⟨x_b, x_r, x_t, x_l, h, h2, z3, hb⟩ := mv8 hb1 x_b x_r x_t x_l h h2 z3 hb
 clear hb1
 replace q_b := x_b.al
 replace q_l := x_l.al
 go_wp2_with fail
 with_reducible refine (ZShr_any z5.zr 1 131 (by omega) (by omega)).mono ?_
 rintro e v6 ⟨A7, n7, c7, rfl, z7, hb1⟩
 obtain ⟨x_b, x_r, x_t, x_l, h, h2, z3, z5, hb⟩ := mv9 hb1 x_b x_r x_t x_l h h2 z3 z5 hb
 clear hb1
 replace q_b := x_b.al
 replace q_l := x_l.al
 rw [HSC.out, HSH.out] at z7 ⊢; replace z7 := z7.slim HSI.out
 have y_b := ((x_b.alloc (.cells #[.bool (ngB H), .slice A7 n7 c7] 24))).al
 have y_l := ((x_l.alloc (.cells #[.bool (ngB H), .slice A7 n7 c7] 24))).al
 go_upto_region 6 with fail
 clear y_b y_l
 have l_b_ha := x_b.lt
 have l_r_ha := x_r.lt
 have l_t_ha := x_t.lt
 have l_l_ha := x_l.lt
 have e_ha : w.heap.size ≤ v6.heap.size := hb.size
 clear q_b q_l
 refine al1 fun v7 hb1 x_ha => ?_
 replace x_ha := Bx.of x_ha
 obtain ⟨x_b, x_r, x_t, x_l, h, h2, z3, z7, hb⟩ := mv9 hb1 x_b x_r x_t x_l h h2 z3 z7 hb
 clear hb1
 have q_b := x_b.al
 have q_l := x_l.al
 have q_ha := x_ha.al
 go_upto_region 5 with fail
 have hv := Below.refl v7.heap.size v7
 have l_b_be := x_b.lt
 have l_r_be := x_r.lt
 have l_t_be := x_t.lt
 have l_l_be := x_l.lt
 have l_ha_be := x_ha.lt
 go_cut [9] (fun s9 wx => BnNew1 v7 B 200 s9 wx)
 case first =>
  go_region_held3 (fun w' => w'.cell? ⟨w.heap.size, 0, none⟩ = some (.bool b) ∧ w'.cell? ⟨w.heap.size, 1, none⟩ = some (.slice A n c) ∧ w'.cell? ⟨w.heap.size, 2, none⟩ = some (.bool b2) ∧ w'.cell? ⟨w.heap.size, 3, none⟩ = some (.slice A2 n2 c2) ∧ w'.cell? ⟨w.heap.size, 4, none⟩ = some (.int .i64 q) ∧ w'.cell? ⟨v6.heap.size, 0, none⟩ = some (.bool (ngB H)) ∧ w'.cell? ⟨v6.heap.size, 1, none⟩ = some (.slice A7 n7 c7))
   (first | (with_reducible exact ⟨x_b.c0, x_b.c1, x_b.c2, x_b.c3, x_b.c4, x_ha.c0, x_ha.c1⟩) | (with_reducible exact ⟨(x_b.alloc _).c0, (x_b.alloc _).c1, (x_b.alloc _).c2, (x_b.alloc _).c3, (x_b.alloc _).c4, (x_ha.alloc _).c0, (x_ha.alloc _).c1⟩) | (with_reducible exact ⟨(x_b.aside (by omega)).c0, (x_b.aside (by omega)).c1, (x_b.aside (by omega)).c2, (x_b.aside (by omega)).c3, (x_b.aside (by omega)).c4, (x_ha.aside (by omega)).c0, (x_ha.aside (by omega)).c1⟩) | (with_reducible exact ⟨((x_b.alloc _).aside (by omega)).c0, ((x_b.alloc _).aside (by omega)).c1, ((x_b.alloc _).aside (by omega)).c2, ((x_b.alloc _).aside (by omega)).c3, ((x_b.alloc _).aside (by omega)).c4, ((x_ha.alloc _).aside (by omega)).c0, ((x_ha.alloc _).aside (by omega)).c1⟩) | go_keep)
   (first | (go_at_call 21; (with_reducible refine (ZSub_any h.drw z7.drw.zr 40 (by omega) (by omega) (by omega)).mono ?_); rintro e v8 ⟨A8, n8, c8, rfl, z8, hb1⟩; replace hb1 := undrew hb1; (try replace x_be := x_be.keep hb1); replace hv := bthen hv hb1; have hvs_v8 := hv.size; obtain ⟨x_b, x_r, x_t, x_l, x_ha, h, h2, z3, z7⟩ := mv9 hb1 x_b x_r x_t x_l x_ha h h2 z3 z7; replace hb := Mv.mv hb hb1; clear hb1; replace q_b := x_b.al; replace q_l := x_l.al; replace q_ha := x_ha.al; (try (obtain ⟨q_be0, f_be0, q_be1, f_be1⟩ := x_be.al))) | (go_at_call 21; (with_reducible refine (ZSub_any (h.keep (below_alloc v7 (.cells #[.bool false, .slice none 0 0] 24))).drw (z7.keep (below_alloc v7 (.cells #[.bool false, .slice none 0 0] 24))).drw.zr 40 (by omega) (by omega) (by omega)).mono ?_); rintro e v8 ⟨A8, n8, c8, rfl, z8, hb1⟩; replace hb1 := undrew hb1; have x_be := (Bx.new v7 false none 0 0).keep hb1; replace hb1 := bthen (below_alloc v7 (.cells #[.bool false, .slice none 0 0] 24)) hb1; replace hv := bthen hv hb1; have hvs_v8 := hv.size; obtain ⟨x_b, x_r, x_t, x_l, x_ha, h, h2, z3, z7⟩ := mv9 hb1 x_b x_r x_t x_l x_ha h h2 z3 z7; replace hb := Mv.mv hb hb1; clear hb1; replace q_b := x_b.al; replace q_l := x_l.al; replace q_ha := x_ha.al; (try (obtain ⟨q_be0, f_be0, q_be1, f_be1⟩ := x_be.al))) | (go_at_call 21; (with_reducible refine (ZSub_any h2 z7.zr 40 (by omega) (by omega) (by omega)).mono ?_); rintro e v9 ⟨A9, n9, c9, rfl, z9, hb1⟩; (try replace x_be := x_be.keep hb1); replace hv := bthen hv hb1; have hvs_v9 := hv.size; obtain ⟨x_b, x_r, x_t, x_l, x_ha, h, h2, z3, z7⟩ := mv9 hb1 x_b x_r x_t x_l x_ha h h2 z3 z7; obtain ⟨z8, hb⟩ := mv2 hb1 z8 hb; clear hb1; replace q_b := x_b.al; replace q_l := x_l.al; replace q_ha := x_ha.al; (try (obtain ⟨q_be0, f_be0, q_be1, f_be1⟩ := x_be.al))) | (go_at_call 21; (with_reducible refine (ZSub_any (h2.keep (below_alloc v8 (.cells #[.bool false, .slice none 0 0] 24))) (z7.keep (below_alloc v8 (.cells #[.bool false, .slice none 0 0] 24))).zr 40 (by omega) (by omega) (by omega)).mono ?_); rintro e v9 ⟨A9, n9, c9, rfl, z9, hb1⟩; have x_be := (Bx.new v8 false none 0 0).keep hb1; replace hb1 := bthen (below_alloc v8 (.cells #[.bool false, .slice none 0 0] 24)) hb1; replace hv := bthen hv hb1; have hvs_v9 := hv.size; obtain ⟨x_b, x_r, x_t, x_l, x_ha, h, h2, z3, z7⟩ := mv9 hb1 x_b x_r x_t x_l x_ha h h2 z3 z7; obtain ⟨z8, hb⟩ := mv2 hb1 z8 hb; clear hb1; replace q_b := x_b.al; replace q_l := x_l.al; replace q_ha := x_ha.al; (try (obtain ⟨q_be0, f_be0, q_be1, f_be1⟩ := x_be.al))) | (go_at_call 30; (with_reducible refine (HNE.out _ _ _ _ _ _ _ _ _ _ _ z8.zr z9.zr).mono ?_); rintro e v10 ⟨A10, n10, c10, rfl, z10, hb1⟩; (try replace x_be := x_be.keep hb1); replace hv := bthen hv hb1; have hvs_v10 := hv.size; obtain ⟨x_b, x_r, x_t, x_l, x_ha, h, h2, z3, z7⟩ := mv9 hb1 x_b x_r x_t x_l x_ha h h2 z3 z7; obtain ⟨z8, z9, hb⟩ := mv3 hb1 z8 z9 hb; clear hb1; replace q_b := x_b.al; replace q_l := x_l.al; replace q_ha := x_ha.al; rw [HB.out] at z10 ⊢; (try (obtain ⟨q_be0, f_be0, q_be1, f_be1⟩ := x_be.al))) | (go_at_call 30; (with_reducible refine (HNE.out _ _ _ _ _ _ _ _ _ _ _ (z8.keep (below_alloc v9 (.cells #[.bool false, .slice none 0 0] 24))).zr (z9.keep (below_alloc v9 (.cells #[.bool false, .slice none 0 0] 24))).zr).mono ?_); rintro e v10 ⟨A10, n10, c10, rfl, z10, hb1⟩; have x_be := (Bx.new v9 false none 0 0).keep hb1; replace hb1 := bthen (below_alloc v9 (.cells #[.bool false, .slice none 0 0] 24)) hb1; replace hv := bthen hv hb1; have hvs_v10 := hv.size; obtain ⟨x_b, x_r, x_t, x_l, x_ha, h, h2, z3, z7⟩ := mv9 hb1 x_b x_r x_t x_l x_ha h h2 z3 z7; obtain ⟨z8, z9, hb⟩ := mv3 hb1 z8 z9 hb; clear hb1; replace q_b := x_b.al; replace q_l := x_l.al; replace q_ha := x_ha.al; rw [HB.out] at z10 ⊢; (try (obtain ⟨q_be0, f_be0, q_be1, f_be1⟩ := x_be.al))))
  all_goals go_wp2_with fail
  all_goals go_meet
  all_goals first | (with_reducible exact BnNew1.new hv z10) | (with_reducible exact BnNew1.put hv x_be (by omega) z10)
 obtain ⟨g11, Ax12, nx12, cx12, rfl, x_be, z_be, e_be, hb1⟩ := hcut
 clear hv
 obtain ⟨x_b, x_r, x_t, x_l, x_ha, h, h2, z3, z7⟩ := mv9 hb1 x_b x_r x_t x_l x_ha h h2 z3 z7
 replace hb := Mv.mv hb hb1
 clear hb1
 replace q_b := x_b.al
 replace q_l := x_l.al
 replace q_ha := x_ha.al
 clear q_b q_l q_ha
 generalize wc = v13 at *
 have q_b := x_b.al
 have q_l := x_l.al
 have q_ha := x_ha.al
 have q_be := x_be.al
 have q_r := x_r.al
 have q_t := x_t.al
 go_wp2_with fail
 go_region_held3 (fun w' => w'.cell? ⟨v3.heap.size, 0, none⟩ = some (.bool (ngB L)) ∧ w'.cell? ⟨v3.heap.size, 1, none⟩ = some (.slice A3 n3 c3) ∧ w'.cell? ⟨v6.heap.size, 0, none⟩ = some (.bool (ngB H)) ∧ w'.cell? ⟨v6.heap.size, 1, none⟩ = some (.slice A7 n7 c7) ∧ w'.cell? ⟨g11, 0, none⟩ = some (.bool (ngB B)) ∧ w'.cell? ⟨g11, 1, none⟩ = some (.slice Ax12 nx12 cx12))
  (first | (with_reducible exact ⟨x_l.c0, x_l.c1, x_ha.c0, x_ha.c1, x_be.c0, x_be.c1⟩) | (with_reducible exact ⟨(x_l.aside (by omega)).c0, (x_l.aside (by omega)).c1, (x_ha.aside (by omega)).c0, (x_ha.aside (by omega)).c1, (x_be.aside (by omega)).c0, (x_be.aside (by omega)).c1⟩) | (with_reducible exact ⟨((x_l.aside (by omega)).aside (by omega)).c0, ((x_l.aside (by omega)).aside (by omega)).c1, ((x_ha.aside (by omega)).aside (by omega)).c0, ((x_ha.aside (by omega)).aside (by omega)).c1, ((x_be.aside (by omega)).aside (by omega)).c0, ((x_be.aside (by omega)).aside (by omega)).c1⟩) | (with_reducible exact ⟨(x_l.asideD (by omega)).c0, (x_l.asideD (by omega)).c1, (x_ha.asideD (by omega)).c0, (x_ha.asideD (by omega)).c1, (x_be.asideD (by omega)).c0, (x_be.asideD (by omega)).c1⟩) | (with_reducible exact ⟨((x_l.asideD (by omega)).asideD (by omega)).c0, ((x_l.asideD (by omega)).asideD (by omega)).c1, ((x_ha.asideD (by omega)).asideD (by omega)).c0, ((x_ha.asideD (by omega)).asideD (by omega)).c1, ((x_be.asideD (by omega)).asideD (by omega)).c0, ((x_be.asideD (by omega)).asideD (by omega)).c1⟩) | (with_reducible exact ⟨(x_l.asideL (by omega)).c0, (x_l.asideL (by omega)).c1, (x_ha.asideL (by omega)).c0, (x_ha.asideL (by omega)).c1, (x_be.asideL (by omega)).c0, (x_be.asideL (by omega)).c1⟩) | (with_reducible exact ⟨((x_l.asideL (by omega)).asideL (by omega)).c0, ((x_l.asideL (by omega)).asideL (by omega)).c1, ((x_ha.asideL (by omega)).asideL (by omega)).c0, ((x_ha.asideL (by omega)).asideL (by omega)).c1, ((x_be.asideL (by omega)).asideL (by omega)).c0, ((x_be.asideL (by omega)).asideL (by omega)).c1⟩) | go_keep)
  (first | (go_at_call 21; (with_reducible refine (ZSub_any z7.zr.drw z_be.zr.drw 240 (by omega) (by omega) (by omega)).mono ?_); rintro e v14 ⟨A12, n12, c12, rfl, z12, hb1⟩; replace hb1 := undrew hb1; obtain ⟨x_b, x_r, x_t, x_l, x_ha, x_be, h, h2, z3⟩ := mv9 hb1 x_b x_r x_t x_l x_ha x_be h h2 z3; obtain ⟨z7, z_be, hb⟩ := mv3 hb1 z7 z_be hb; clear hb1; replace q_b := x_b.al; replace q_r := x_r.al; replace q_t := x_t.al; replace q_l := x_l.al; replace q_ha := x_ha.al; replace q_be := x_be.al))
 go_wp2
 clear q_b q_r q_t q_l q_ha q_be
 refine x_r.st2 x_t (by omega) fun _ v15 hs hs2 hx hy => ?_
 obtain ⟨x_b, x_l, x_ha, x_be, h, h2, z3, z7, z_be⟩ := ms9 hs ⟨by omega, by omega, by omega, by omega, trivial, trivial, trivial, trivial, trivial⟩ x_b x_l x_ha x_be h h2 z3 z7 z_be
 obtain ⟨z12, hb⟩ := ms2 hs ⟨trivial, by omega⟩ z12 hb
 obtain ⟨x_b, x_l, x_ha, x_be, h, h2, z3, z7, z_be⟩ := ms9 hs2 ⟨by omega, by omega, by omega, by omega, trivial, trivial, trivial, trivial, trivial⟩ x_b x_l x_ha x_be h h2 z3 z7 z_be
 obtain ⟨z12, hb⟩ := ms2 hs2 ⟨trivial, by omega⟩ z12 hb
 replace x_r := hx; replace x_t := hy; clear hx hy hs hs2
 have q_b := x_b.al
 have q_r := x_r.al
 have q_t := x_t.al
 have q_l := x_l.al
 have q_ha := x_ha.al
 have q_be := x_be.al
 skip
 refine bodyPost_ret (v := .tuple #[.agg #[.bool (ngB L), .slice A3 n3 c3], .agg #[.bool (ngB (H - B)), .slice A12 n12 c12], .int .i64 0]) (by simp [results, Tryz.results10, go_sem, q_r, q_t]) rfl ?_
 exact ⟨_, _, _, _, _, _, rfl, z3.wide (by omega), z12, hb⟩
end Go.Proofs.YtdonaominffpnaaGreatDoor
namespace Go.Proofs.YtdonaominffpnaaGreatDoor
set_option maxRecDepth 100000
set_option maxHeartbeats 4000000
set_option linter.unusedVariables false
open Go.RowKit
variable {b b2 b3 b4 : Bool} {A A2 A3 A4 : Option Addr} {n c n2 c2 n3 c3 n4 c4 j j2 : Nat} {X Y U V q e : Int} {w : World}
theorem zr_nul (w : World) : Zr w false none 0 0 0 1 := ⟨[], Rd.nil, rfl, Nat.zero_le _⟩
theorem Gap_no (h : Zr w b A n c X 8) (h2 : Zr w b2 A2 n2 c2 Y 8) (s : Int) (hv : ¬ ((0 ≤ q ∧ q ≤ 2048 ∧ X ≤ Y) ∧ 0 ≤ s ∧ s ≤ 2048)) :
  Calls Tryz.prog 10 #[.agg #[.bool b, .slice A n c, .bool b2, .slice A2 n2 c2, .int .i64 q], .int .i64 s] w (fun e w' => e = .returned (.tuple #[.agg #[.bool false, .slice none 0 0], .agg #[.bool false, .slice none 0 0], .int .i64 1]) ∧ Below w.heap.size w w') := by
 rcases (show ¬ (0 ≤ q ∧ q ≤ 2048 ∧ X ≤ Y) ∨ ((0 ≤ q ∧ q ≤ 2048 ∧ X ≤ Y) ∧ s < 0) ∨ ((0 ≤ q ∧ q ≤ 2048 ∧ X ≤ Y) ∧ ¬ s < 0 ∧ 2048 < s) by omega) with hr | ⟨hr, h0⟩ | ⟨hr, h0, h1⟩
 ·have HR := Lib.hid (rB_no hr); clear hr hv
  go_enter Tryz.func10, Tryz.ntmps10
  go_wp2_with fail
  refine al3c fun v1 hb x_b x_r x_t => ?_
  replace x_b := Lx.of x_b; replace x_r := Bx.of x_r; replace x_t := Bx.of x_t
  obtain ⟨h, h2⟩ := mv2 hb h h2
  have q_b := x_b.al
  have q_r := x_r.al
  have q_t := x_t.al
  skip
  with_reducible refine (Right_any h h2 (by omega) (by omega)).mono ?_
  rintro e v2 ⟨rfl, hb1⟩
  obtain ⟨x_b, x_r, x_t, h, h2, hb⟩ := mv6 hb1 x_b x_r x_t h h2 hb
  clear hb1
  replace q_b := x_b.al
  replace q_r := x_r.al
  replace q_t := x_t.al
  rw [HR.out]
  go_wp2
  clear q_b q_r q_t
  refine x_r.st2 x_t (by omega) fun _ v3 hs hs2 hx hy => ?_
  obtain ⟨x_b, h, h2, hb⟩ := ms4 hs ⟨by omega, trivial, trivial, by omega⟩ x_b h h2 hb
  obtain ⟨x_b, h, h2, hb⟩ := ms4 hs2 ⟨by omega, trivial, trivial, by omega⟩ x_b h h2 hb
  replace x_r := hx; replace x_t := hy; clear hx hy hs hs2
  have q_b := x_b.al
  have q_r := x_r.al
  have q_t := x_t.al
  skip
  refine bodyPost_ret (v := .tuple #[.agg #[.bool false, .slice none 0 0], .agg #[.bool false, .slice none 0 0], .int .i64 1]) (by simp [results, Tryz.results10, go_sem, q_r, q_t]) rfl ?_
  exact ⟨rfl, hb⟩
 ·have HR := Lib.hid (rB_yes hr); clear hr hv
  go_enter Tryz.func10, Tryz.ntmps10
  go_wp2_with fail
  refine al3c fun v1 hb x_b x_r x_t => ?_
  replace x_b := Lx.of x_b; replace x_r := Bx.of x_r; replace x_t := Bx.of x_t
  obtain ⟨h, h2⟩ := mv2 hb h h2
  have q_b := x_b.al
  have q_r := x_r.al
  have q_t := x_t.al
  skip
  with_reducible refine (Right_any h h2 (by omega) (by omega)).mono ?_
  rintro e v2 ⟨rfl, hb1⟩
  obtain ⟨x_b, x_r, x_t, h, h2, hb⟩ := mv6 hb1 x_b x_r x_t h h2 hb
  clear hb1
  replace q_b := x_b.al
  replace q_r := x_r.al
  replace q_t := x_t.al
  rw [HR.out]
  go_wp2
  clear q_b q_r q_t
  refine x_r.st2 x_t (by omega) fun _ v3 hs hs2 hx hy => ?_
  obtain ⟨x_b, h, h2, hb⟩ := ms4 hs ⟨by omega, trivial, trivial, by omega⟩ x_b h h2 hb
  obtain ⟨x_b, h, h2, hb⟩ := ms4 hs2 ⟨by omega, trivial, trivial, by omega⟩ x_b h h2 hb
  replace x_r := hx; replace x_t := hy; clear hx hy hs hs2
  have q_b := x_b.al
  have q_r := x_r.al
  have q_t := x_t.al
  skip
  refine bodyPost_ret (v := .tuple #[.agg #[.bool false, .slice none 0 0], .agg #[.bool false, .slice none 0 0], .int .i64 1]) (by simp [results, Tryz.results10, go_sem, q_r, q_t]) rfl ?_
  exact ⟨rfl, hb⟩
 ·have HR := Lib.hid (rB_yes hr); clear hr hv
  go_enter Tryz.func10, Tryz.ntmps10
  go_wp2_with fail
  refine al3c fun v1 hb x_b x_r x_t => ?_
  replace x_b := Lx.of x_b; replace x_r := Bx.of x_r; replace x_t := Bx.of x_t
  obtain ⟨h, h2⟩ := mv2 hb h h2
  have q_b := x_b.al
  have q_r := x_r.al
  have q_t := x_t.al
  skip
  with_reducible refine (Right_any h h2 (by omega) (by omega)).mono ?_
  rintro e v2 ⟨rfl, hb1⟩
  obtain ⟨x_b, x_r, x_t, h, h2, hb⟩ := mv6 hb1 x_b x_r x_t h h2 hb
  clear hb1
  replace q_b := x_b.al
  replace q_r := x_r.al
  replace q_t := x_t.al
  rw [HR.out]
  go_wp2
  clear q_b q_r q_t
  refine x_r.st2 x_t (by omega) fun _ v3 hs hs2 hx hy => ?_
  obtain ⟨x_b, h, h2, hb⟩ := ms4 hs ⟨by omega, trivial, trivial, by omega⟩ x_b h h2 hb
  obtain ⟨x_b, h, h2, hb⟩ := ms4 hs2 ⟨by omega, trivial, trivial, by omega⟩ x_b h h2 hb
  replace x_r := hx; replace x_t := hy; clear hx hy hs hs2
  have q_b := x_b.al
  have q_r := x_r.al
  have q_t := x_t.al
  skip
  refine bodyPost_ret (v := .tuple #[.agg #[.bool false, .slice none 0 0], .agg #[.bool false, .slice none 0 0], .int .i64 1]) (by simp [results, Tryz.results10, go_sem, q_r, q_t]) rfl ?_
  exact ⟨rfl, hb⟩
def nrI (X Y : Int) : Int := if X < 0 then Y else X
def zrB (X Y : Int) : Bool := decide (X ≤ 0 ∧ 0 ≤ Y)
theorem has_zero {X Y q : Int} (h : 0 ≤ q ∧ q ≤ 2048 ∧ X ≤ Y) : hasB X Y q 0 0 = zrB X Y := by
 unfold hasB zrB
 have e : cM 0 0 = 0 ∧ cE 0 = 0 := c_yes (by omega)
 have v : vd 0 0 = vd 0 (-q) := by unfold vd; rw [Int.zero_mul, Int.zero_mul]
 simp only [e.1, e.2, v, vd_le, h, true_and]
theorem Scale_some (h : Zr w b A n c X 8) (h2 : Zr w b2 A2 n2 c2 Y 8) (hv : 0 ≤ q ∧ q ≤ 2048 ∧ X ≤ Y) (hz : zrB X Y = false) (K : Int) (hK : bl (nrI X Y).natAbs - 1 - q = K) :
  Calls Tryz.prog 13 #[.agg #[.bool b, .slice A n c, .bool b2, .slice A2 n2 c2, .int .i64 q]] w (fun e w' => e = .returned (.tuple #[.int .i64 K, .bool true]) ∧ Below w.heap.size w w') := by
 have HR := Lib.hid (rB_yes hv)
 have HH := Lib.hid ((has_zero hv).trans hz)
 have hb9 := bl_le (Bt.of_si h.si)
 have hb8 := bl_le (Bt.of_si h2.si)
 have hq : 0 ≤ q ∧ q ≤ 2048 := by omega
 rcases (show X < 0 ∨ ¬ X < 0 by omega) with h0 | h0
 ·have e0 : nrI X Y = Y := by unfold nrI; rw [if_pos h0]
  rw [e0] at hK; clear e0 hv hz
  have hd : sgnI X < 0 := (sgnI_lt0 (X := X)).2 h0
  obtain ⟨C, hC⟩ : ∃ C, sgnI X = C := ⟨_, rfl⟩
  rw [hC] at hd; have HC := Lib.hid hC; clear hC h0
  obtain ⟨β, hβ⟩ : ∃ C, bl Y.natAbs = C := ⟨_, rfl⟩
  rw [hβ] at hK hb8; have HB := Lib.hid hβ; clear hβ
  have w1 : IntKind.i64.wrap ((β : Int) - 1) = (β : Int) - 1 := wrap_in (by omega) (by omega)
  have w2 : IntKind.i64.wrap ((β : Int) - 1 - q) = K := by rw [wrap_in (by omega) (by omega)]; exact hK
  clear hK
  go_enter Tryz.func13, Tryz.ntmps13
  go_wp2_with fail
  refine al1c fun v1 hb x_b => ?_
  replace x_b := Lx.of x_b
  obtain ⟨h, h2⟩ := mv2 hb h h2
  have q_b := x_b.al
  skip
  with_reducible refine (Right_any h h2 (by omega) (by omega)).mono ?_
  rintro e v2 ⟨rfl, hb1⟩
  obtain ⟨x_b, h, h2, hb⟩ := mv4 hb1 x_b h h2 hb
  clear hb1
  replace q_b := x_b.al
  rw [HR.out]
  have hz0 := zr_nul v2
  go_wp2_with fail
  with_reducible refine (Has_any h h2 hz0 (by omega) (by omega) (by omega)).mono ?_
  rintro e v3 ⟨rfl, hb1⟩
  obtain ⟨x_b, h, h2, hz0, hb⟩ := mv5 hb1 x_b h h2 hz0 hb
  clear hb1
  replace q_b := x_b.al
  rw [HH.out]
  have y_b := ((x_b.alloc (.cells #[.bool b, .slice A n c] 24))).al
  go_wp2_with fail
  clear y_b
  have l_b_m := x_b.lt
  have e_m : w.heap.size ≤ v3.heap.size := hb.size
  clear q_b
  refine al1c fun v4 hb1 x_m => ?_
  replace x_m := Bx.of x_m
  obtain ⟨x_b, h, h2, hz0, hb⟩ := mv5 hb1 x_b h h2 hz0 hb
  clear hb1
  have q_b := x_b.al
  have q_m := x_m.al
  skip
  with_reducible refine (ZSign_any h (by omega)).mono ?_
  rintro e v5 ⟨rfl, hb1⟩
  obtain ⟨x_b, x_m, h, h2, hz0, hb⟩ := mv6 hb1 x_b x_m h h2 hz0 hb
  clear hb1
  replace q_b := x_b.al
  replace q_m := x_m.al
  rw [HC.out]
  go_upto_region 6 with fail
  clear q_b q_m
  refine x_m.st fun v6 hs hx => ?_
  obtain ⟨x_b, h, h2, hz0, hb⟩ := ms5 hs ⟨by omega, trivial, trivial, trivial, by omega⟩ x_b h h2 hz0 hb
  replace x_m := hx; clear hx hs
  have q_b := x_b.al
  have q_m := x_m.al
  go_region_held3 (fun w' => w'.cell? ⟨v3.heap.size, 0, none⟩ = some (.bool b2) ∧ w'.cell? ⟨v3.heap.size, 1, none⟩ = some (.slice A2 n2 c2) ∧ w'.cell? ⟨w.heap.size, 0, none⟩ = some (.bool b) ∧ w'.cell? ⟨w.heap.size, 1, none⟩ = some (.slice A n c) ∧ w'.cell? ⟨w.heap.size, 2, none⟩ = some (.bool b2) ∧ w'.cell? ⟨w.heap.size, 3, none⟩ = some (.slice A2 n2 c2) ∧ w'.cell? ⟨w.heap.size, 4, none⟩ = some (.int .i64 q))
   (first | (with_reducible exact ⟨x_m.c0, x_m.c1, x_b.c0, x_b.c1, x_b.c2, x_b.c3, x_b.c4⟩) | (with_reducible exact ⟨(x_m.aside (by omega)).c0, (x_m.aside (by omega)).c1, (x_b.aside (by omega)).c0, (x_b.aside (by omega)).c1, (x_b.aside (by omega)).c2, (x_b.aside (by omega)).c3, (x_b.aside (by omega)).c4⟩) | (with_reducible exact ⟨((x_m.aside (by omega)).aside (by omega)).c0, ((x_m.aside (by omega)).aside (by omega)).c1, ((x_b.aside (by omega)).aside (by omega)).c0, ((x_b.aside (by omega)).aside (by omega)).c1, ((x_b.aside (by omega)).aside (by omega)).c2, ((x_b.aside (by omega)).aside (by omega)).c3, ((x_b.aside (by omega)).aside (by omega)).c4⟩) | (with_reducible exact ⟨(x_m.asideD (by omega)).c0, (x_m.asideD (by omega)).c1, (x_b.asideD (by omega)).c0, (x_b.asideD (by omega)).c1, (x_b.asideD (by omega)).c2, (x_b.asideD (by omega)).c3, (x_b.asideD (by omega)).c4⟩) | (with_reducible exact ⟨((x_m.asideD (by omega)).asideD (by omega)).c0, ((x_m.asideD (by omega)).asideD (by omega)).c1, ((x_b.asideD (by omega)).asideD (by omega)).c0, ((x_b.asideD (by omega)).asideD (by omega)).c1, ((x_b.asideD (by omega)).asideD (by omega)).c2, ((x_b.asideD (by omega)).asideD (by omega)).c3, ((x_b.asideD (by omega)).asideD (by omega)).c4⟩) | (with_reducible exact ⟨(x_m.asideL (by omega)).c0, (x_m.asideL (by omega)).c1, (x_b.asideL (by omega)).c0, (x_b.asideL (by omega)).c1, (x_b.asideL (by omega)).c2, (x_b.asideL (by omega)).c3, (x_b.asideL (by omega)).c4⟩) | (with_reducible exact ⟨((x_m.asideL (by omega)).asideL (by omega)).c0, ((x_m.asideL (by omega)).asideL (by omega)).c1, ((x_b.asideL (by omega)).asideL (by omega)).c0, ((x_b.asideL (by omega)).asideL (by omega)).c1, ((x_b.asideL (by omega)).asideL (by omega)).c2, ((x_b.asideL (by omega)).asideL (by omega)).c3, ((x_b.asideL (by omega)).asideL (by omega)).c4⟩) | go_keep)
   (first | (go_at_call 44; (with_reducible refine (ZBitLen_any h2.drw).mono ?_); rintro e v7 ⟨rfl, hb1⟩; replace hb1 := undrew hb1; obtain ⟨x_b, x_m, h, h2, hz0, hb⟩ := mv6 hb1 x_b x_m h h2 hz0 hb; clear hb1; replace q_b := x_b.al; replace q_m := x_m.al; rw [HB.out]))
  go_wp2
  refine bodyPost_ret (v := .tuple #[.int .i64 K, .bool true]) (by simp [results, Tryz.results13, go_sem]) rfl ?_
  exact ⟨rfl, hb⟩
 ·have e0 : nrI X Y = X := by unfold nrI; rw [if_neg h0]
  rw [e0] at hK; clear e0 hv hz
  have hd : ¬ sgnI X < 0 := fun k => h0 ((sgnI_lt0 (X := X)).1 k)
  obtain ⟨C, hC⟩ : ∃ C, sgnI X = C := ⟨_, rfl⟩
  rw [hC] at hd; have HC := Lib.hid hC; clear hC h0
  obtain ⟨β, hβ⟩ : ∃ C, bl X.natAbs = C := ⟨_, rfl⟩
  rw [hβ] at hK hb9; have HB := Lib.hid hβ; clear hβ
  have w1 : IntKind.i64.wrap ((β : Int) - 1) = (β : Int) - 1 := wrap_in (by omega) (by omega)
  have w2 : IntKind.i64.wrap ((β : Int) - 1 - q) = K := by rw [wrap_in (by omega) (by omega)]; exact hK
  clear hK
  go_enter Tryz.func13, Tryz.ntmps13
  go_wp2_with fail
  refine al1c fun v1 hb x_b => ?_
  replace x_b := Lx.of x_b
  obtain ⟨h, h2⟩ := mv2 hb h h2
  have q_b := x_b.al
  skip
  with_reducible refine (Right_any h h2 (by omega) (by omega)).mono ?_
  rintro e v2 ⟨rfl, hb1⟩
  obtain ⟨x_b, h, h2, hb⟩ := mv4 hb1 x_b h h2 hb
  clear hb1
  replace q_b := x_b.al
  rw [HR.out]
  have hz0 := zr_nul v2
  go_wp2_with fail
  with_reducible refine (Has_any h h2 hz0 (by omega) (by omega) (by omega)).mono ?_
  rintro e v3 ⟨rfl, hb1⟩
  obtain ⟨x_b, h, h2, hz0, hb⟩ := mv5 hb1 x_b h h2 hz0 hb
  clear hb1
  replace q_b := x_b.al
  rw [HH.out]
  have y_b := ((x_b.alloc (.cells #[.bool b, .slice A n c] 24))).al
  go_wp2_with fail
  clear y_b
  have l_b_m := x_b.lt
  have e_m : w.heap.size ≤ v3.heap.size := hb.size
  clear q_b
  refine al1c fun v4 hb1 x_m => ?_
  replace x_m := Bx.of x_m
  obtain ⟨x_b, h, h2, hz0, hb⟩ := mv5 hb1 x_b h h2 hz0 hb
  clear hb1
  have q_b := x_b.al
  have q_m := x_m.al
  skip
  with_reducible refine (ZSign_any h (by omega)).mono ?_
  rintro e v5 ⟨rfl, hb1⟩
  obtain ⟨x_b, x_m, h, h2, hz0, hb⟩ := mv6 hb1 x_b x_m h h2 hz0 hb
  clear hb1
  replace q_b := x_b.al
  replace q_m := x_m.al
  rw [HC.out]
  go_upto_region 6 with fail
  go_region_held3 (fun w' => w'.cell? ⟨v3.heap.size, 0, none⟩ = some (.bool b) ∧ w'.cell? ⟨v3.heap.size, 1, none⟩ = some (.slice A n c) ∧ w'.cell? ⟨w.heap.size, 0, none⟩ = some (.bool b) ∧ w'.cell? ⟨w.heap.size, 1, none⟩ = some (.slice A n c) ∧ w'.cell? ⟨w.heap.size, 2, none⟩ = some (.bool b2) ∧ w'.cell? ⟨w.heap.size, 3, none⟩ = some (.slice A2 n2 c2) ∧ w'.cell? ⟨w.heap.size, 4, none⟩ = some (.int .i64 q))
   (first | (with_reducible exact ⟨x_m.c0, x_m.c1, x_b.c0, x_b.c1, x_b.c2, x_b.c3, x_b.c4⟩) | (with_reducible exact ⟨(x_m.aside (by omega)).c0, (x_m.aside (by omega)).c1, (x_b.aside (by omega)).c0, (x_b.aside (by omega)).c1, (x_b.aside (by omega)).c2, (x_b.aside (by omega)).c3, (x_b.aside (by omega)).c4⟩) | (with_reducible exact ⟨((x_m.aside (by omega)).aside (by omega)).c0, ((x_m.aside (by omega)).aside (by omega)).c1, ((x_b.aside (by omega)).aside (by omega)).c0, ((x_b.aside (by omega)).aside (by omega)).c1, ((x_b.aside (by omega)).aside (by omega)).c2, ((x_b.aside (by omega)).aside (by omega)).c3, ((x_b.aside (by omega)).aside (by omega)).c4⟩) | (with_reducible exact ⟨(x_m.asideD (by omega)).c0, (x_m.asideD (by omega)).c1, (x_b.asideD (by omega)).c0, (x_b.asideD (by omega)).c1, (x_b.asideD (by omega)).c2, (x_b.asideD (by omega)).c3, (x_b.asideD (by omega)).c4⟩) | (with_reducible exact ⟨((x_m.asideD (by omega)).asideD (by omega)).c0, ((x_m.asideD (by omega)).asideD (by omega)).c1, ((x_b.asideD (by omega)).asideD (by omega)).c0, ((x_b.asideD (by omega)).asideD (by omega)).c1, ((x_b.asideD (by omega)).asideD (by omega)).c2, ((x_b.asideD (by omega)).asideD (by omega)).c3, ((x_b.asideD (by omega)).asideD (by omega)).c4⟩) | (with_reducible exact ⟨(x_m.asideL (by omega)).c0, (x_m.asideL (by omega)).c1, (x_b.asideL (by omega)).c0, (x_b.asideL (by omega)).c1, (x_b.asideL (by omega)).c2, (x_b.asideL (by omega)).c3, (x_b.asideL (by omega)).c4⟩) | (with_reducible exact ⟨((x_m.asideL (by omega)).asideL (by omega)).c0, ((x_m.asideL (by omega)).asideL (by omega)).c1, ((x_b.asideL (by omega)).asideL (by omega)).c0, ((x_b.asideL (by omega)).asideL (by omega)).c1, ((x_b.asideL (by omega)).asideL (by omega)).c2, ((x_b.asideL (by omega)).asideL (by omega)).c3, ((x_b.asideL (by omega)).asideL (by omega)).c4⟩) | go_keep)
   (first | (go_at_call 44; (with_reducible refine (ZBitLen_any h.drw).mono ?_); rintro e v6 ⟨rfl, hb1⟩; replace hb1 := undrew hb1; obtain ⟨x_b, x_m, h, h2, hz0, hb⟩ := mv6 hb1 x_b x_m h h2 hz0 hb; clear hb1; replace q_b := x_b.al; replace q_m := x_m.al; rw [HB.out]))
  go_wp2
  refine bodyPost_ret (v := .tuple #[.int .i64 K, .bool true]) (by simp [results, Tryz.results13, go_sem]) rfl ?_
  exact ⟨rfl, hb⟩
theorem Scale_none (h : Zr w b A n c X 8) (h2 : Zr w b2 A2 n2 c2 Y 8) (hv : 0 ≤ q ∧ q ≤ 2048 ∧ X ≤ Y) (hz : zrB X Y = true) :
  Calls Tryz.prog 13 #[.agg #[.bool b, .slice A n c, .bool b2, .slice A2 n2 c2, .int .i64 q]] w (fun e w' => e = .returned (.tuple #[.int .i64 0, .bool false]) ∧ Below w.heap.size w w') := by
 have HR := Lib.hid (rB_yes hv)
 have HH := Lib.hid ((has_zero hv).trans hz); clear hv hz
 go_enter Tryz.func13, Tryz.ntmps13
 go_wp2_with fail
 refine al1c fun v1 hb x_b => ?_
 replace x_b := Lx.of x_b
 obtain ⟨h, h2⟩ := mv2 hb h h2
 have q_b := x_b.al
 skip
 with_reducible refine (Right_any h h2 (by omega) (by omega)).mono ?_
 rintro e v2 ⟨rfl, hb1⟩
 obtain ⟨x_b, h, h2, hb⟩ := mv4 hb1 x_b h h2 hb
 clear hb1
 replace q_b := x_b.al
 rw [HR.out]
 have hz0 := zr_nul v2
 go_wp2_with fail
 with_reducible refine (Has_any h h2 hz0 (by omega) (by omega) (by omega)).mono ?_
 rintro e v3 ⟨rfl, hb1⟩
 obtain ⟨x_b, h, h2, hz0, hb⟩ := mv5 hb1 x_b h h2 hz0 hb
 clear hb1
 replace q_b := x_b.al
 rw [HH.out]
 go_wp2
 refine bodyPost_ret (v := .tuple #[.int .i64 0, .bool false]) (by simp [results, Tryz.results13, go_sem]) rfl ?_
 exact ⟨rfl, hb⟩
theorem Scale_not (h : Zr w b A n c X 8) (h2 : Zr w b2 A2 n2 c2 Y 8) (hv : ¬ (0 ≤ q ∧ q ≤ 2048 ∧ X ≤ Y)) :
  Calls Tryz.prog 13 #[.agg #[.bool b, .slice A n c, .bool b2, .slice A2 n2 c2, .int .i64 q]] w (fun e w' => e = .returned (.tuple #[.int .i64 0, .bool false]) ∧ Below w.heap.size w w') := by
 have HR := Lib.hid (rB_no hv); clear hv
 go_enter Tryz.func13, Tryz.ntmps13
 go_wp2_with fail
 refine al1c fun v1 hb x_b => ?_
 replace x_b := Lx.of x_b
 obtain ⟨h, h2⟩ := mv2 hb h h2
 have q_b := x_b.al
 skip
 with_reducible refine (Right_any h h2 (by omega) (by omega)).mono ?_
 rintro e v2 ⟨rfl, hb1⟩
 obtain ⟨x_b, h, h2, hb⟩ := mv4 hb1 x_b h h2 hb
 clear hb1
 replace q_b := x_b.al
 rw [HR.out]
 go_wp2
 refine bodyPost_ret (v := .tuple #[.int .i64 0, .bool false]) (by simp [results, Tryz.results13, go_sem]) rfl ?_
 exact ⟨rfl, hb⟩
end Go.Proofs.YtdonaominffpnaaGreatDoor
