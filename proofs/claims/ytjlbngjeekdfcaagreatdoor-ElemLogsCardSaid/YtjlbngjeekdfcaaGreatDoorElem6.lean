/-
 elem: Sin, Cos.
-/
import Derived.Test.YtjlbngjeekdfcaaGreatDoorEnum4
import Derived.Test.YtjlbngjeekdfcaaGreatDoorElem4
import Derived.Test.YtjlbngjeekdfcaaGreatDoorElem5
import Derived.Test.YtjlbngjeekdfcaaGreatDoorKcos
namespace Go.Proofs.YtjlbngjeekdfcaaGreatDoor
set_option maxRecDepth 100000
set_option maxHeartbeats 8000000
set_option linter.unusedVariables false
open Go.RowKit
open MX (bLo bHi tA tZ xK xR xS yR yS uR uS gR gS hR hS wK wR wS vJ vKi vN vLo vHi nq Hd)
variable {b b2 b3 b4 : Bool} {A A2 A3 A4 : Option Addr} {n c n2 c2 n3 c3 n4 c4 j j2 : Nat} {X Y U V q e : Int} {w : World}
theorem Eahead_any (co : Bool) {C : Int} (hC : C = (if co then 1 else 0)) (h : Zr w b A n c X 8) (a : Ar X e) (h0 : 0 ≤ nq X e) {W : Nat} (hW : 40 ≤ W ∧ W < 256) :
  Calls Tryz.prog 169 #[.agg #[.bool b, .slice A n c, .int .i64 e], .int .i64 C, .int .i64 (W : Nat)] w (OuB w (vLo co false X e W (W / 8 + 6)) (vHi co false X e W (W / 8 + 6)) W 8) := by
 have hE : -4000 ≤ e ∧ e ≤ 4000 := ⟨by have := a.lo; omega, a.hi⟩
 have s := w_nb (n := W / 8 + 6) co hW hE.1 ⟨h0, a.b.2⟩ (by omega) (vK_in (vJ co (wK X e W)))
 have jt := vJ_tm co s.1.1
 have hC2 : 0 ≤ C ∧ C ≤ 1 := by rw [hC]; split <;> omega
 rw [← hC] at jt
 have HLO : Hid (vLo co false X e W (W / 8 + 6) = if 2 ≤ vJ co (wK X e W) then -(rwHi (vKi (vJ co (wK X e W))) (wR X e W) W (W / 8 + 6) + (wS X e W - wR X e W)) else rwLo (vKi (vJ co (wK X e W))) (wR X e W) W (W / 8 + 6) - (wS X e W - wR X e W)) := Lib.hid (by unfold vLo vN; simp)
 have HHI : Hid (vHi co false X e W (W / 8 + 6) = if 2 ≤ vJ co (wK X e W) then -(rwLo (vKi (vJ co (wK X e W))) (wR X e W) W (W / 8 + 6) - (wS X e W - wR X e W)) else rwHi (vKi (vJ co (wK X e W))) (wR X e W) W (W / 8 + 6) + (wS X e W - wR X e W)) := Lib.hid (by unfold vHi vN; simp)
 have HBO := Lib.hid (fun w (h : Zr w b A n c X 8) => EballOf_any h (by omega) hE W hW.2 (a.bs hW.2))
 have HPI := Lib.hid (fun w => EhalfPi_any (w := w) W hW.2 (t_si hW))
 have HSU : Hid (∀ w b A n c, Zr w b A n c (wR X e W) 8 → (vJ co (wK X e W) % 2 = 0 → Calls Tryz.prog 171 #[.agg #[.bool b, .slice A n c], .int .i64 (W : Nat), .int .i64 ((W : Int) / 8 + 6)] w (Ou2 w (rwLo (vKi (vJ co (wK X e W))) (wR X e W) W (W / 8 + 6)) (rwHi (vKi (vJ co (wK X e W))) (wR X e W) W (W / 8 + 6)) 0 25)) ∧ (vJ co (wK X e W) % 2 = 1 → Calls Tryz.prog 172 #[.agg #[.bool b, .slice A n c], .int .i64 (W : Nat), .int .i64 ((W : Int) / 8 + 6)] w (Ou2 w (rwLo (vKi (vJ co (wK X e W))) (wR X e W) W (W / 8 + 6)) (rwHi (vKi (vJ co (wK X e W))) (wR X e W) W (W / 8 + 6)) 0 25))) := Lib.hid fun w b A n c z => by
  have q : ((W / 8 + 6 : Nat) : Int) = (W : Int) / 8 + 6 := by omega
  rw [← q]; unfold vKi
  exact ⟨fun i => by rw [if_pos i]; exact KSin_yes z W _ (by omega) (by omega) (by omega) (by omega), fun i => by rw [if_neg (by omega)]; exact KCos_yes z W _ (by omega) (by omega) (by omega) (by omega)⟩
 have HDV : Hid (bLo X e W / tZ W = wK X e W ∧ 0 < tZ W) := Lib.hid ⟨rfl, s.2.2.2.2.2.1⟩
 obtain ⟨K, hK⟩ : ∃ k, wK X e W = k := ⟨_, rfl⟩
 have hR1 : bLo X e W - tZ W * wK X e W = wR X e W := rfl
 have hR2 : bHi X e W - tA W * wK X e W = wS X e W := rfl
 obtain ⟨M1, hM1⟩ : ∃ k, tA W * wK X e W = k := ⟨_, rfl⟩
 obtain ⟨M2, hM2⟩ : ∃ k, tZ W * wK X e W = k := ⟨_, rfl⟩
 rw [hM1] at hR2 s; rw [hM2] at hR1 s
 obtain ⟨jn, hj⟩ : ∃ j, vJ co (wK X e W) = j := ⟨_, rfl⟩
 rw [hj] at jt HLO HHI HSU s
 rw [hK] at hM1 hM2 HDV jt s
 generalize wR X e W = R1 at *
 generalize wS X e W = R2 at *
 generalize bLo X e W = P1 at *
 generalize bHi X e W = P2 at *
 generalize tA W = T1 at *
 generalize tZ W = T2 at *
 obtain ⟨S1, hS1⟩ : ∃ s, rwLo (vKi jn) R1 W (W / 8 + 6) = s := ⟨_, rfl⟩
 obtain ⟨S2, hS2⟩ : ∃ s, rwHi (vKi jn) R1 W (W / 8 + 6) = s := ⟨_, rfl⟩
 rw [hS1, hS2] at s HSU HLO HHI
 have HSC : Hid ((min (T1 * K) (T2 * K) = M1 ∧ max (T1 * K) (T2 * K) = M2) ∧ Si M1 8 ∧ Si M2 8) := Lib.hid ⟨by omega, sw_si hW.2 (by omega) (by omega), sw_si hW.2 (by omega) (by omega)⟩
 have HMI : Hid ((mn4 (fun x y => x - y) P1 P2 M1 M2 = R1 ∧ mx4 (fun x y => x - y) P1 P2 M1 M2 = R2) ∧ Si R1 8 ∧ Si R2 8) := Lib.hid ⟨by simp only [mn4, mx4]; omega, sw_si hW.2 (by omega) (by omega), sw_si hW.2 (by omega) (by omega)⟩
 obtain ⟨G1, hG1⟩ : ∃ g, R1 - R2 = g := ⟨_, rfl⟩
 obtain ⟨G2, hG2⟩ : ∃ g, R2 - R1 = g := ⟨_, rfl⟩
 have HWI : Hid ((R1 - R2 = G1 ∧ R2 - R1 = G2) ∧ Si G1 8 ∧ Si G2 8) := Lib.hid ⟨⟨hG1, hG2⟩, sw_si hW.2 (by omega) (by omega), sw_si hW.2 (by omega) (by omega)⟩
 obtain ⟨V1, hV1⟩ : ∃ v, S1 + G1 = v := ⟨_, rfl⟩
 obtain ⟨V2, hV2⟩ : ∃ v, S2 + G2 = v := ⟨_, rfl⟩
 have HPL : Hid ((mn4 (fun x y => x + y) S1 S2 G1 G2 = V1 ∧ mx4 (fun x y => x + y) S1 S2 G1 G2 = V2) ∧ Si V1 8 ∧ Si V2 8) := Lib.hid ⟨by simp only [mn4, mx4]; omega, sw_si hW.2 (by omega) (by omega), sw_si hW.2 (by omega) (by omega)⟩
 have HNE : Hid ((min (V1 * -1) (V2 * -1) = -V2 ∧ max (V1 * -1) (V2 * -1) = -V1) ∧ Si (-V2) 8 ∧ Si (-V1) 8) := Lib.hid ⟨by omega, sw_si hW.2 (by omega) (by omega), sw_si hW.2 (by omega) (by omega)⟩
 have HV : Hid (P1 ≤ P2 ∧ T1 ≤ T2 ∧ M1 ≤ M2 ∧ R1 ≤ R2 ∧ S1 ≤ S2 ∧ V1 ≤ V2 ∧ G1 ≤ G2) := Lib.hid (by omega)
 have HS8 : Hid (Si S1 8 ∧ Si S2 8) := Lib.hid ⟨sw_si hW.2 (by omega) (by omega), sw_si hW.2 (by omega) (by omega)⟩
 have HLO2 : Hid (vLo co false X e W (W / 8 + 6) = if 2 ≤ jn then -V2 else V1) := Lib.hid (by rw [HLO.out, ← hV1, ← hV2]; split <;> omega)
 have HHI2 : Hid (vHi co false X e W (W / 8 + 6) = if 2 ≤ jn then -V1 else V2) := Lib.hid (by rw [HHI.out, ← hV1, ← hV2]; split <;> omega)
 rw [HLO2.out, HHI2.out]
 obtain ⟨hJ, hj4⟩ := jt
 have hk : 0 ≤ K ∧ K ≤ 50 := s.1
 clear HLO HHI HLO2 HHI2 s hV1 hV2 hS1 hS2 hR1 hR2 hM1 hM2 hG1 hG2 hK hE h0 a hC hj
 rcases (show (jn = 0 ∨ jn = 1) ∨ (jn = 2 ∨ jn = 3) by omega) with hj | hj
 ·rcases hj with rfl | rfl
  all_goals
   rw [if_neg (by omega), if_neg (by omega)]; clear hj4
   go_enter Tryz.func169, Tryz.ntmps169
   go_wp2_with fail
   refine al2c fun v1 hb x_x x_r => ?_
   replace x_x := Dx.of x_x; replace x_r := Nx.of x_r
   replace h := Mv.mv h hb
   have q_x := x_x.al
   have q_r := x_r.al
   clear q_r
   skip
   with_reducible refine (HBO.out _ h).mono ?_
   rintro e v2 ⟨A5, n5, c5, A6, n6, c6, rfl, z5, z6, hb1⟩
   obtain ⟨x_r, h, hb⟩ := mv3 hb1 x_r h hb
   clear hb1
   go_wp2_with fail
   with_reducible refine (HPI.out _).mono ?_
   rintro e v3 ⟨A7, n7, c7, A8, n8, c8, rfl, z7, z8, hb1⟩
   obtain ⟨x_r, z5, z6, hb⟩ := mv4 hb1 x_r z5 z6 hb
   clear hb1
   go_wp2_with fail
   have l_r_p := x_r.lt
   have e_p : w.heap.size ≤ v3.heap.size := hb.size
   refine al2c fun v4 hb1 x_p x_t => ?_
   replace x_p := Nx.of x_p; replace x_t := Nx.of x_t
   obtain ⟨x_r, z5, z6, z7, z8, hb⟩ := mv6 hb1 x_r z5 z6 z7 z8 hb
   clear hb1
   have q_p := x_p.al
   have q_t := x_t.al
   skip
   with_reducible refine (Edown_any z5 z8 rfl HDV.out.2 (by rw [HDV.out.1]; omega)).mono ?_
   rintro e v5 ⟨rfl, hb1⟩
   obtain ⟨x_r, x_p, x_t, z5, z6, z7, z8, hb⟩ := mv8 hb1 x_r x_p x_t z5 z6 z7 z8 hb
   clear hb1
   replace q_p := x_p.al
   replace q_t := x_t.al
   rw [HDV.out.1]
   go_upto_region 3 with fail
   have hv := Below.refl v5.heap.size v5
   have l_r_q := x_r.lt
   have l_p_q := x_p.lt
   have l_t_q := x_t.lt
   go_cut [10] (fun s9 wx => NnNew v5 R1 R2 (W : Int) 8 8 s9 wx)
   case first =>
    go_region_held3 (fun w' => w'.cell? ⟨v3.heap.size, 0, none⟩ = some (.bool (ngB P1)) ∧ w'.cell? ⟨v3.heap.size, 1, none⟩ = some (.slice A5 n5 c5) ∧ w'.cell? ⟨v3.heap.size, 2, none⟩ = some (.bool (ngB P2)) ∧ w'.cell? ⟨v3.heap.size, 3, none⟩ = some (.slice A6 n6 c6) ∧ w'.cell? ⟨v3.heap.size, 4, none⟩ = some (.int .i64 (W : Int)) ∧ w'.cell? ⟨v3.heap.size + 1, 0, none⟩ = some (.bool (ngB T1)) ∧ w'.cell? ⟨v3.heap.size + 1, 1, none⟩ = some (.slice A7 n7 c7) ∧ w'.cell? ⟨v3.heap.size + 1, 2, none⟩ = some (.bool (ngB T2)) ∧ w'.cell? ⟨v3.heap.size + 1, 3, none⟩ = some (.slice A8 n8 c8) ∧ w'.cell? ⟨v3.heap.size + 1, 4, none⟩ = some (.int .i64 (W : Int)))
     (first | (with_reducible exact ⟨x_p.c0, x_p.c1, x_p.c2, x_p.c3, x_p.c4, x_t.c0, x_t.c1, x_t.c2, x_t.c3, x_t.c4⟩) | (with_reducible exact ⟨(x_p.alloc _).c0, (x_p.alloc _).c1, (x_p.alloc _).c2, (x_p.alloc _).c3, (x_p.alloc _).c4, (x_t.alloc _).c0, (x_t.alloc _).c1, (x_t.alloc _).c2, (x_t.alloc _).c3, (x_t.alloc _).c4⟩) | (with_reducible exact ⟨(x_p.asideN (by omega)).c0, (x_p.asideN (by omega)).c1, (x_p.asideN (by omega)).c2, (x_p.asideN (by omega)).c3, (x_p.asideN (by omega)).c4, (x_t.asideN (by omega)).c0, (x_t.asideN (by omega)).c1, (x_t.asideN (by omega)).c2, (x_t.asideN (by omega)).c3, (x_t.asideN (by omega)).c4⟩) | (with_reducible exact ⟨((x_p.alloc _).asideN (by omega)).c0, ((x_p.alloc _).asideN (by omega)).c1, ((x_p.alloc _).asideN (by omega)).c2, ((x_p.alloc _).asideN (by omega)).c3, ((x_p.alloc _).asideN (by omega)).c4, ((x_t.alloc _).asideN (by omega)).c0, ((x_t.alloc _).asideN (by omega)).c1, ((x_t.alloc _).asideN (by omega)).c2, ((x_t.alloc _).asideN (by omega)).c3, ((x_t.alloc _).asideN (by omega)).c4⟩) | go_keep)
     (first | (go_at_call 118; (with_reducible refine (Escaled_any z7.drw z8.drw ⟨by omega, by omega, HV.out.2.1⟩ K (by omega) M1 M2 HSC.out).mono ?_); rintro e v6 ⟨A11, n11, c11, A12, n12, c12, rfl, z11, z12, hb1⟩; replace hb1 := undrew hb1; (try replace x_q := x_q.keep hb1); replace hv := bthen hv hb1; have hvs_v6 := hv.size; obtain ⟨x_r, x_p, x_t, z5, z6, z7, z8, hb⟩ := mv8 hb1 x_r x_p x_t z5 z6 z7 z8 hb; clear hb1; replace q_p := x_p.al; replace q_t := x_t.al; (try (have q_q0 := x_q.c0; have f_q0 := x_q.fr 0; have q_q1 := x_q.c1; have f_q1 := x_q.fr 1; have q_q2 := x_q.c2; have f_q2 := x_q.fr 2; have q_q3 := x_q.c3; have f_q3 := x_q.fr 3; have q_q4 := x_q.c4; have f_q4 := x_q.fr 4))) | (go_at_call 118; (with_reducible refine (Escaled_any (z7.keep (below_alloc v5 (.cells #[.bool false, .slice none 0 0, .bool false, .slice none 0 0, .int .i64 0] 81))).drw (z8.keep (below_alloc v5 (.cells #[.bool false, .slice none 0 0, .bool false, .slice none 0 0, .int .i64 0] 81))).drw ⟨by omega, by omega, HV.out.2.1⟩ K (by omega) M1 M2 HSC.out).mono ?_); rintro e v6 ⟨A11, n11, c11, A12, n12, c12, rfl, z11, z12, hb1⟩; replace hb1 := undrew hb1; have x_q := (Nx.new v5 false none 0 0 false none 0 0 0).keep hb1; replace hb1 := bthen (below_alloc v5 (.cells #[.bool false, .slice none 0 0, .bool false, .slice none 0 0, .int .i64 0] 81)) hb1; replace hv := bthen hv hb1; have hvs_v6 := hv.size; obtain ⟨x_r, x_p, x_t, z5, z6, z7, z8, hb⟩ := mv8 hb1 x_r x_p x_t z5 z6 z7 z8 hb; clear hb1; replace q_p := x_p.al; replace q_t := x_t.al; (try (have q_q0 := x_q.c0; have f_q0 := x_q.fr 0; have q_q1 := x_q.c1; have f_q1 := x_q.fr 1; have q_q2 := x_q.c2; have f_q2 := x_q.fr 2; have q_q3 := x_q.c3; have f_q3 := x_q.fr 3; have q_q4 := x_q.c4; have f_q4 := x_q.fr 4))) | (go_at_call 117; (with_reducible refine (Eminus_any z5 z6 z11 z12 ⟨by omega, by omega, HV.out.1⟩ HV.out.2.2.1 R1 R2 HMI.out).mono ?_); rintro e v7 ⟨A13, n13, c13, A14, n14, c14, rfl, z13, z14, hb1⟩; (try replace x_q := x_q.keep hb1); replace hv := bthen hv hb1; have hvs_v7 := hv.size; obtain ⟨x_r, x_p, x_t, z5, z6, z7, z8, z11, z12⟩ := mv9 hb1 x_r x_p x_t z5 z6 z7 z8 z11 z12; replace hb := Mv.mv hb hb1; clear hb1; replace q_p := x_p.al; replace q_t := x_t.al; (try (have q_q0 := x_q.c0; have f_q0 := x_q.fr 0; have q_q1 := x_q.c1; have f_q1 := x_q.fr 1; have q_q2 := x_q.c2; have f_q2 := x_q.fr 2; have q_q3 := x_q.c3; have f_q3 := x_q.fr 3; have q_q4 := x_q.c4; have f_q4 := x_q.fr 4))) | (go_at_call 117; (with_reducible refine (Eminus_any (z5.keep (below_alloc v6 (.cells #[.bool false, .slice none 0 0, .bool false, .slice none 0 0, .int .i64 0] 81))) (z6.keep (below_alloc v6 (.cells #[.bool false, .slice none 0 0, .bool false, .slice none 0 0, .int .i64 0] 81))) (z11.keep (below_alloc v6 (.cells #[.bool false, .slice none 0 0, .bool false, .slice none 0 0, .int .i64 0] 81))) (z12.keep (below_alloc v6 (.cells #[.bool false, .slice none 0 0, .bool false, .slice none 0 0, .int .i64 0] 81))) ⟨by omega, by omega, HV.out.1⟩ HV.out.2.2.1 R1 R2 HMI.out).mono ?_); rintro e v7 ⟨A13, n13, c13, A14, n14, c14, rfl, z13, z14, hb1⟩; have x_q := (Nx.new v6 false none 0 0 false none 0 0 0).keep hb1; replace hb1 := bthen (below_alloc v6 (.cells #[.bool false, .slice none 0 0, .bool false, .slice none 0 0, .int .i64 0] 81)) hb1; replace hv := bthen hv hb1; have hvs_v7 := hv.size; obtain ⟨x_r, x_p, x_t, z5, z6, z7, z8, z11, z12⟩ := mv9 hb1 x_r x_p x_t z5 z6 z7 z8 z11 z12; replace hb := Mv.mv hb hb1; clear hb1; replace q_p := x_p.al; replace q_t := x_t.al; (try (have q_q0 := x_q.c0; have f_q0 := x_q.fr 0; have q_q1 := x_q.c1; have f_q1 := x_q.fr 1; have q_q2 := x_q.c2; have f_q2 := x_q.fr 2; have q_q3 := x_q.c3; have f_q3 := x_q.fr 3; have q_q4 := x_q.c4; have f_q4 := x_q.fr 4))))
    all_goals go_wp2_with fail
    all_goals go_meet
    all_goals first | (with_reducible exact NnNew.new hv z13 z14) | (with_reducible exact NnNew.put hv x_q (by omega) z13 z14)
   obtain ⟨g8, Ax9, nx9, cx9, Ay9, ny9, cy9, rfl, x_q, z1_q, z2_q, e_q, hb1⟩ := hcut
   clear hv
   obtain ⟨x_r, x_p, x_t, z5, z6, z7, z8, hb⟩ := mv8 hb1 x_r x_p x_t z5 z6 z7 z8 hb
   clear hb1
   replace q_p := x_p.al
   replace q_t := x_t.al
   clear q_p q_t
   generalize wc = v10 at *
   have q_p := x_p.al
   have q_t := x_t.al
   have q_q := x_q.al
   go_wp2_with fail
   first | (with_reducible refine ((HSU.out _ _ _ _ _ z1_q.zr).1 (by decide)).mono ?_) | (with_reducible refine ((HSU.out _ _ _ _ _ z1_q.zr).2 (by decide)).mono ?_)
   rintro e v11 ⟨A15, n15, c15, A16, n16, c16, rfl, z15, z16, hb1⟩
   obtain ⟨x_r, x_q, z1_q, z2_q, hb⟩ := mv5 hb1 x_r x_q z1_q z2_q hb
   clear hb1
   replace q_q := x_q.al
   replace z15 := z15.slim HS8.out.1; replace z16 := z16.slim HS8.out.2
   have y_q := (((x_q.alloc (.cells #[.bool (ngB S1), .slice A15 n15 c15] 24)).alloc (.cells #[.bool (ngB S2), .slice A16 n16 c16] 24))).al
   go_upto_region 9 with fail
   clear y_q
   have l_r_lo := x_r.lt
   have l_q_lo := x_q.lt
   have e_lo : w.heap.size ≤ v11.heap.size := hb.size
   clear q_q
   refine al2 fun v12 hb1 x_lo x_hi => ?_
   replace x_lo := Bx.of x_lo; replace x_hi := Bx.of x_hi
   obtain ⟨x_r, x_q, z1_q, z2_q, z15, z16, hb⟩ := mv7 hb1 x_r x_q z1_q z2_q z15 z16 hb
   clear hb1
   have q_q := x_q.al
   have q_lo := x_lo.al
   have q_hi := x_hi.al
   have hv := Below.refl v12.heap.size v12
   have l_r_v := x_r.lt
   have l_q_v := x_q.lt
   have l_lo_v := x_lo.lt
   have l_hi_v := x_hi.lt
   go_cut [16] (fun s9 wx => NnNew v12 V1 V2 (W : Int) 8 8 s9 wx)
   case first =>
    go_region_held3 (fun w' => w'.cell? ⟨v11.heap.size, 0, none⟩ = some (.bool (ngB S1)) ∧ w'.cell? ⟨v11.heap.size, 1, none⟩ = some (.slice A15 n15 c15) ∧ w'.cell? ⟨v11.heap.size + 1, 0, none⟩ = some (.bool (ngB S2)) ∧ w'.cell? ⟨v11.heap.size + 1, 1, none⟩ = some (.slice A16 n16 c16) ∧ w'.cell? ⟨g8, 0, none⟩ = some (.bool (ngB R1)) ∧ w'.cell? ⟨g8, 1, none⟩ = some (.slice Ax9 nx9 cx9) ∧ w'.cell? ⟨g8, 2, none⟩ = some (.bool (ngB R2)) ∧ w'.cell? ⟨g8, 3, none⟩ = some (.slice Ay9 ny9 cy9) ∧ w'.cell? ⟨g8, 4, none⟩ = some (.int .i64 (W : Int)))
     (first | (with_reducible exact ⟨x_lo.c0, x_lo.c1, x_hi.c0, x_hi.c1, x_q.c0, x_q.c1, x_q.c2, x_q.c3, x_q.c4⟩) | (with_reducible exact ⟨(x_lo.alloc _).c0, (x_lo.alloc _).c1, (x_hi.alloc _).c0, (x_hi.alloc _).c1, (x_q.alloc _).c0, (x_q.alloc _).c1, (x_q.alloc _).c2, (x_q.alloc _).c3, (x_q.alloc _).c4⟩) | (with_reducible exact ⟨(x_lo.asideN (by omega)).c0, (x_lo.asideN (by omega)).c1, (x_hi.asideN (by omega)).c0, (x_hi.asideN (by omega)).c1, (x_q.asideN (by omega)).c0, (x_q.asideN (by omega)).c1, (x_q.asideN (by omega)).c2, (x_q.asideN (by omega)).c3, (x_q.asideN (by omega)).c4⟩) | (with_reducible exact ⟨((x_lo.alloc _).asideN (by omega)).c0, ((x_lo.alloc _).asideN (by omega)).c1, ((x_hi.alloc _).asideN (by omega)).c0, ((x_hi.alloc _).asideN (by omega)).c1, ((x_q.alloc _).asideN (by omega)).c0, ((x_q.alloc _).asideN (by omega)).c1, ((x_q.alloc _).asideN (by omega)).c2, ((x_q.alloc _).asideN (by omega)).c3, ((x_q.alloc _).asideN (by omega)).c4⟩) | go_keep)
     (first | (go_at_call 109; (with_reducible refine (Ewidth_any z1_q.drw z2_q.drw ⟨by omega, by omega, HV.out.2.2.2.1⟩ _ _ HWI.out).mono ?_); rintro e v13 ⟨A21, n21, c21, A22, n22, c22, rfl, z21, z22, hb1⟩; replace hb1 := undrew hb1; (try replace x_v := x_v.keep hb1); replace hv := bthen hv hb1; have hvs_v13 := hv.size; obtain ⟨x_r, x_q, x_lo, x_hi, z1_q, z2_q, z15, z16, hb⟩ := mv9 hb1 x_r x_q x_lo x_hi z1_q z2_q z15 z16 hb; clear hb1; replace q_q := x_q.al; replace q_lo := x_lo.al; replace q_hi := x_hi.al; (try (have q_v0 := x_v.c0; have f_v0 := x_v.fr 0; have q_v1 := x_v.c1; have f_v1 := x_v.fr 1; have q_v2 := x_v.c2; have f_v2 := x_v.fr 2; have q_v3 := x_v.c3; have f_v3 := x_v.fr 3; have q_v4 := x_v.c4; have f_v4 := x_v.fr 4))) | (go_at_call 109; (with_reducible refine (Ewidth_any (z1_q.keep (below_alloc v12 (.cells #[.bool false, .slice none 0 0, .bool false, .slice none 0 0, .int .i64 0] 81))).drw (z2_q.keep (below_alloc v12 (.cells #[.bool false, .slice none 0 0, .bool false, .slice none 0 0, .int .i64 0] 81))).drw ⟨by omega, by omega, HV.out.2.2.2.1⟩ _ _ HWI.out).mono ?_); rintro e v13 ⟨A21, n21, c21, A22, n22, c22, rfl, z21, z22, hb1⟩; replace hb1 := undrew hb1; have x_v := (Nx.new v12 false none 0 0 false none 0 0 0).keep hb1; replace hb1 := bthen (below_alloc v12 (.cells #[.bool false, .slice none 0 0, .bool false, .slice none 0 0, .int .i64 0] 81)) hb1; replace hv := bthen hv hb1; have hvs_v13 := hv.size; obtain ⟨x_r, x_q, x_lo, x_hi, z1_q, z2_q, z15, z16, hb⟩ := mv9 hb1 x_r x_q x_lo x_hi z1_q z2_q z15 z16 hb; clear hb1; replace q_q := x_q.al; replace q_lo := x_lo.al; replace q_hi := x_hi.al; (try (have q_v0 := x_v.c0; have f_v0 := x_v.fr 0; have q_v1 := x_v.c1; have f_v1 := x_v.fr 1; have q_v2 := x_v.c2; have f_v2 := x_v.fr 2; have q_v3 := x_v.c3; have f_v3 := x_v.fr 3; have q_v4 := x_v.c4; have f_v4 := x_v.fr 4))) | (go_at_call 163; (with_reducible refine (Eplus_any z15 z16 z21 z22 ⟨by omega, by omega, HV.out.2.2.2.2.1⟩ HV.out.2.2.2.2.2.2 V1 V2 HPL.out).mono ?_); rintro e v14 ⟨A23, n23, c23, A24, n24, c24, rfl, z23, z24, hb1⟩; (try replace x_v := x_v.keep hb1); replace hv := bthen hv hb1; have hvs_v14 := hv.size; obtain ⟨x_r, x_q, x_lo, x_hi, z1_q, z2_q, z15, z16, z21⟩ := mv9 hb1 x_r x_q x_lo x_hi z1_q z2_q z15 z16 z21; obtain ⟨z22, hb⟩ := mv2 hb1 z22 hb; clear hb1; replace q_q := x_q.al; replace q_lo := x_lo.al; replace q_hi := x_hi.al; (try (have q_v0 := x_v.c0; have f_v0 := x_v.fr 0; have q_v1 := x_v.c1; have f_v1 := x_v.fr 1; have q_v2 := x_v.c2; have f_v2 := x_v.fr 2; have q_v3 := x_v.c3; have f_v3 := x_v.fr 3; have q_v4 := x_v.c4; have f_v4 := x_v.fr 4))) | (go_at_call 163; (with_reducible refine (Eplus_any (z15.keep (below_alloc v13 (.cells #[.bool false, .slice none 0 0, .bool false, .slice none 0 0, .int .i64 0] 81))) (z16.keep (below_alloc v13 (.cells #[.bool false, .slice none 0 0, .bool false, .slice none 0 0, .int .i64 0] 81))) (z21.keep (below_alloc v13 (.cells #[.bool false, .slice none 0 0, .bool false, .slice none 0 0, .int .i64 0] 81))) (z22.keep (below_alloc v13 (.cells #[.bool false, .slice none 0 0, .bool false, .slice none 0 0, .int .i64 0] 81))) ⟨by omega, by omega, HV.out.2.2.2.2.1⟩ HV.out.2.2.2.2.2.2 V1 V2 HPL.out).mono ?_); rintro e v14 ⟨A23, n23, c23, A24, n24, c24, rfl, z23, z24, hb1⟩; have x_v := (Nx.new v13 false none 0 0 false none 0 0 0).keep hb1; replace hb1 := bthen (below_alloc v13 (.cells #[.bool false, .slice none 0 0, .bool false, .slice none 0 0, .int .i64 0] 81)) hb1; replace hv := bthen hv hb1; have hvs_v14 := hv.size; obtain ⟨x_r, x_q, x_lo, x_hi, z1_q, z2_q, z15, z16, z21⟩ := mv9 hb1 x_r x_q x_lo x_hi z1_q z2_q z15 z16 z21; obtain ⟨z22, hb⟩ := mv2 hb1 z22 hb; clear hb1; replace q_q := x_q.al; replace q_lo := x_lo.al; replace q_hi := x_hi.al; (try (have q_v0 := x_v.c0; have f_v0 := x_v.fr 0; have q_v1 := x_v.c1; have f_v1 := x_v.fr 1; have q_v2 := x_v.c2; have f_v2 := x_v.fr 2; have q_v3 := x_v.c3; have f_v3 := x_v.fr 3; have q_v4 := x_v.c4; have f_v4 := x_v.fr 4))))
    all_goals go_wp2_with fail
    all_goals go_meet
    all_goals first | (with_reducible exact NnNew.new hv z23 z24) | (with_reducible exact NnNew.put hv x_v (by omega) z23 z24)
   obtain ⟨g15, Ax16, nx16, cx16, Ay16, ny16, cy16, rfl, x_v, z1_v, z2_v, e_v, hb1⟩ := hcut
   clear hv
   obtain ⟨x_r, x_q, x_lo, x_hi, z1_q, z2_q, z15, z16, hb⟩ := mv9 hb1 x_r x_q x_lo x_hi z1_q z2_q z15 z16 hb
   clear hb1
   replace q_q := x_q.al
   replace q_lo := x_lo.al
   replace q_hi := x_hi.al
   clear q_q q_lo q_hi
   generalize wc = v17 at *
   have q_q := x_q.al
   have q_lo := x_lo.al
   have q_hi := x_hi.al
   have q_v := x_v.al
   have q_r := x_r.al
   go_wp2
   clear q_r q_v
   refine x_r.st fun v18 hs hx => ?_
   obtain ⟨x_v, z1_v, z2_v, hb⟩ := ms4 hs ⟨by omega, trivial, trivial, by omega⟩ x_v z1_v z2_v hb
   replace x_r := hx; clear hx hs
   have q_r := x_r.al
   have q_v := x_v.al
   skip
   refine bodyPost_ret (v := .agg #[.bool (ngB V1), .slice Ax16 nx16 cx16, .bool (ngB V2), .slice Ay16 ny16 cy16, .int .i64 (W : Int)]) (by simp [results, Tryz.results169, go_sem, q_r]) rfl ?_
   exact ⟨_, _, _, _, _, _, rfl, z1_v, z2_v, hb⟩
 ·rcases hj with rfl | rfl
  all_goals
   rw [if_pos (by omega), if_pos (by omega)]; clear hj4
   go_enter Tryz.func169, Tryz.ntmps169
   go_wp2_with fail
   refine al2c fun v1 hb x_x x_r => ?_
   replace x_x := Dx.of x_x; replace x_r := Nx.of x_r
   replace h := Mv.mv h hb
   have q_x := x_x.al
   have q_r := x_r.al
   clear q_r
   skip
   with_reducible refine (HBO.out _ h).mono ?_
   rintro e v2 ⟨A5, n5, c5, A6, n6, c6, rfl, z5, z6, hb1⟩
   obtain ⟨x_r, h, hb⟩ := mv3 hb1 x_r h hb
   clear hb1
   go_wp2_with fail
   with_reducible refine (HPI.out _).mono ?_
   rintro e v3 ⟨A7, n7, c7, A8, n8, c8, rfl, z7, z8, hb1⟩
   obtain ⟨x_r, z5, z6, hb⟩ := mv4 hb1 x_r z5 z6 hb
   clear hb1
   go_wp2_with fail
   have l_r_p := x_r.lt
   have e_p : w.heap.size ≤ v3.heap.size := hb.size
   refine al2c fun v4 hb1 x_p x_t => ?_
   replace x_p := Nx.of x_p; replace x_t := Nx.of x_t
   obtain ⟨x_r, z5, z6, z7, z8, hb⟩ := mv6 hb1 x_r z5 z6 z7 z8 hb
   clear hb1
   have q_p := x_p.al
   have q_t := x_t.al
   skip
   with_reducible refine (Edown_any z5 z8 rfl HDV.out.2 (by rw [HDV.out.1]; omega)).mono ?_
   rintro e v5 ⟨rfl, hb1⟩
   obtain ⟨x_r, x_p, x_t, z5, z6, z7, z8, hb⟩ := mv8 hb1 x_r x_p x_t z5 z6 z7 z8 hb
   clear hb1
   replace q_p := x_p.al
   replace q_t := x_t.al
   rw [HDV.out.1]
   go_upto_region 3 with fail
   have hv := Below.refl v5.heap.size v5
   have l_r_q := x_r.lt
   have l_p_q := x_p.lt
   have l_t_q := x_t.lt
   go_cut [10] (fun s9 wx => NnNew v5 R1 R2 (W : Int) 8 8 s9 wx)
   case first =>
    go_region_held3 (fun w' => w'.cell? ⟨v3.heap.size, 0, none⟩ = some (.bool (ngB P1)) ∧ w'.cell? ⟨v3.heap.size, 1, none⟩ = some (.slice A5 n5 c5) ∧ w'.cell? ⟨v3.heap.size, 2, none⟩ = some (.bool (ngB P2)) ∧ w'.cell? ⟨v3.heap.size, 3, none⟩ = some (.slice A6 n6 c6) ∧ w'.cell? ⟨v3.heap.size, 4, none⟩ = some (.int .i64 (W : Int)) ∧ w'.cell? ⟨v3.heap.size + 1, 0, none⟩ = some (.bool (ngB T1)) ∧ w'.cell? ⟨v3.heap.size + 1, 1, none⟩ = some (.slice A7 n7 c7) ∧ w'.cell? ⟨v3.heap.size + 1, 2, none⟩ = some (.bool (ngB T2)) ∧ w'.cell? ⟨v3.heap.size + 1, 3, none⟩ = some (.slice A8 n8 c8) ∧ w'.cell? ⟨v3.heap.size + 1, 4, none⟩ = some (.int .i64 (W : Int)))
     (first | (with_reducible exact ⟨x_p.c0, x_p.c1, x_p.c2, x_p.c3, x_p.c4, x_t.c0, x_t.c1, x_t.c2, x_t.c3, x_t.c4⟩) | (with_reducible exact ⟨(x_p.alloc _).c0, (x_p.alloc _).c1, (x_p.alloc _).c2, (x_p.alloc _).c3, (x_p.alloc _).c4, (x_t.alloc _).c0, (x_t.alloc _).c1, (x_t.alloc _).c2, (x_t.alloc _).c3, (x_t.alloc _).c4⟩) | (with_reducible exact ⟨(x_p.asideN (by omega)).c0, (x_p.asideN (by omega)).c1, (x_p.asideN (by omega)).c2, (x_p.asideN (by omega)).c3, (x_p.asideN (by omega)).c4, (x_t.asideN (by omega)).c0, (x_t.asideN (by omega)).c1, (x_t.asideN (by omega)).c2, (x_t.asideN (by omega)).c3, (x_t.asideN (by omega)).c4⟩) | (with_reducible exact ⟨((x_p.alloc _).asideN (by omega)).c0, ((x_p.alloc _).asideN (by omega)).c1, ((x_p.alloc _).asideN (by omega)).c2, ((x_p.alloc _).asideN (by omega)).c3, ((x_p.alloc _).asideN (by omega)).c4, ((x_t.alloc _).asideN (by omega)).c0, ((x_t.alloc _).asideN (by omega)).c1, ((x_t.alloc _).asideN (by omega)).c2, ((x_t.alloc _).asideN (by omega)).c3, ((x_t.alloc _).asideN (by omega)).c4⟩) | go_keep)
     (first | (go_at_call 118; (with_reducible refine (Escaled_any z7.drw z8.drw ⟨by omega, by omega, HV.out.2.1⟩ K (by omega) M1 M2 HSC.out).mono ?_); rintro e v6 ⟨A11, n11, c11, A12, n12, c12, rfl, z11, z12, hb1⟩; replace hb1 := undrew hb1; (try replace x_q := x_q.keep hb1); replace hv := bthen hv hb1; have hvs_v6 := hv.size; obtain ⟨x_r, x_p, x_t, z5, z6, z7, z8, hb⟩ := mv8 hb1 x_r x_p x_t z5 z6 z7 z8 hb; clear hb1; replace q_p := x_p.al; replace q_t := x_t.al; (try (have q_q0 := x_q.c0; have f_q0 := x_q.fr 0; have q_q1 := x_q.c1; have f_q1 := x_q.fr 1; have q_q2 := x_q.c2; have f_q2 := x_q.fr 2; have q_q3 := x_q.c3; have f_q3 := x_q.fr 3; have q_q4 := x_q.c4; have f_q4 := x_q.fr 4))) | (go_at_call 118; (with_reducible refine (Escaled_any (z7.keep (below_alloc v5 (.cells #[.bool false, .slice none 0 0, .bool false, .slice none 0 0, .int .i64 0] 81))).drw (z8.keep (below_alloc v5 (.cells #[.bool false, .slice none 0 0, .bool false, .slice none 0 0, .int .i64 0] 81))).drw ⟨by omega, by omega, HV.out.2.1⟩ K (by omega) M1 M2 HSC.out).mono ?_); rintro e v6 ⟨A11, n11, c11, A12, n12, c12, rfl, z11, z12, hb1⟩; replace hb1 := undrew hb1; have x_q := (Nx.new v5 false none 0 0 false none 0 0 0).keep hb1; replace hb1 := bthen (below_alloc v5 (.cells #[.bool false, .slice none 0 0, .bool false, .slice none 0 0, .int .i64 0] 81)) hb1; replace hv := bthen hv hb1; have hvs_v6 := hv.size; obtain ⟨x_r, x_p, x_t, z5, z6, z7, z8, hb⟩ := mv8 hb1 x_r x_p x_t z5 z6 z7 z8 hb; clear hb1; replace q_p := x_p.al; replace q_t := x_t.al; (try (have q_q0 := x_q.c0; have f_q0 := x_q.fr 0; have q_q1 := x_q.c1; have f_q1 := x_q.fr 1; have q_q2 := x_q.c2; have f_q2 := x_q.fr 2; have q_q3 := x_q.c3; have f_q3 := x_q.fr 3; have q_q4 := x_q.c4; have f_q4 := x_q.fr 4))) | (go_at_call 117; (with_reducible refine (Eminus_any z5 z6 z11 z12 ⟨by omega, by omega, HV.out.1⟩ HV.out.2.2.1 R1 R2 HMI.out).mono ?_); rintro e v7 ⟨A13, n13, c13, A14, n14, c14, rfl, z13, z14, hb1⟩; (try replace x_q := x_q.keep hb1); replace hv := bthen hv hb1; have hvs_v7 := hv.size; obtain ⟨x_r, x_p, x_t, z5, z6, z7, z8, z11, z12⟩ := mv9 hb1 x_r x_p x_t z5 z6 z7 z8 z11 z12; replace hb := Mv.mv hb hb1; clear hb1; replace q_p := x_p.al; replace q_t := x_t.al; (try (have q_q0 := x_q.c0; have f_q0 := x_q.fr 0; have q_q1 := x_q.c1; have f_q1 := x_q.fr 1; have q_q2 := x_q.c2; have f_q2 := x_q.fr 2; have q_q3 := x_q.c3; have f_q3 := x_q.fr 3; have q_q4 := x_q.c4; have f_q4 := x_q.fr 4))) | (go_at_call 117; (with_reducible refine (Eminus_any (z5.keep (below_alloc v6 (.cells #[.bool false, .slice none 0 0, .bool false, .slice none 0 0, .int .i64 0] 81))) (z6.keep (below_alloc v6 (.cells #[.bool false, .slice none 0 0, .bool false, .slice none 0 0, .int .i64 0] 81))) (z11.keep (below_alloc v6 (.cells #[.bool false, .slice none 0 0, .bool false, .slice none 0 0, .int .i64 0] 81))) (z12.keep (below_alloc v6 (.cells #[.bool false, .slice none 0 0, .bool false, .slice none 0 0, .int .i64 0] 81))) ⟨by omega, by omega, HV.out.1⟩ HV.out.2.2.1 R1 R2 HMI.out).mono ?_); rintro e v7 ⟨A13, n13, c13, A14, n14, c14, rfl, z13, z14, hb1⟩; have x_q := (Nx.new v6 false none 0 0 false none 0 0 0).keep hb1; replace hb1 := bthen (below_alloc v6 (.cells #[.bool false, .slice none 0 0, .bool false, .slice none 0 0, .int .i64 0] 81)) hb1; replace hv := bthen hv hb1; have hvs_v7 := hv.size; obtain ⟨x_r, x_p, x_t, z5, z6, z7, z8, z11, z12⟩ := mv9 hb1 x_r x_p x_t z5 z6 z7 z8 z11 z12; replace hb := Mv.mv hb hb1; clear hb1; replace q_p := x_p.al; replace q_t := x_t.al; (try (have q_q0 := x_q.c0; have f_q0 := x_q.fr 0; have q_q1 := x_q.c1; have f_q1 := x_q.fr 1; have q_q2 := x_q.c2; have f_q2 := x_q.fr 2; have q_q3 := x_q.c3; have f_q3 := x_q.fr 3; have q_q4 := x_q.c4; have f_q4 := x_q.fr 4))))
    all_goals go_wp2_with fail
    all_goals go_meet
    all_goals first | (with_reducible exact NnNew.new hv z13 z14) | (with_reducible exact NnNew.put hv x_q (by omega) z13 z14)
   obtain ⟨g8, Ax9, nx9, cx9, Ay9, ny9, cy9, rfl, x_q, z1_q, z2_q, e_q, hb1⟩ := hcut
   clear hv
   obtain ⟨x_r, x_p, x_t, z5, z6, z7, z8, hb⟩ := mv8 hb1 x_r x_p x_t z5 z6 z7 z8 hb
   clear hb1
   replace q_p := x_p.al
   replace q_t := x_t.al
   clear q_p q_t
   generalize wc = v10 at *
   have q_p := x_p.al
   have q_t := x_t.al
   have q_q := x_q.al
   go_wp2_with fail
   first | (with_reducible refine ((HSU.out _ _ _ _ _ z1_q.zr).1 (by decide)).mono ?_) | (with_reducible refine ((HSU.out _ _ _ _ _ z1_q.zr).2 (by decide)).mono ?_)
   rintro e v11 ⟨A15, n15, c15, A16, n16, c16, rfl, z15, z16, hb1⟩
   obtain ⟨x_r, x_q, z1_q, z2_q, hb⟩ := mv5 hb1 x_r x_q z1_q z2_q hb
   clear hb1
   replace q_q := x_q.al
   replace z15 := z15.slim HS8.out.1; replace z16 := z16.slim HS8.out.2
   have y_q := (((x_q.alloc (.cells #[.bool (ngB S1), .slice A15 n15 c15] 24)).alloc (.cells #[.bool (ngB S2), .slice A16 n16 c16] 24))).al
   go_upto_region 9 with fail
   clear y_q
   have l_r_lo := x_r.lt
   have l_q_lo := x_q.lt
   have e_lo : w.heap.size ≤ v11.heap.size := hb.size
   clear q_q
   refine al2 fun v12 hb1 x_lo x_hi => ?_
   replace x_lo := Bx.of x_lo; replace x_hi := Bx.of x_hi
   obtain ⟨x_r, x_q, z1_q, z2_q, z15, z16, hb⟩ := mv7 hb1 x_r x_q z1_q z2_q z15 z16 hb
   clear hb1
   have q_q := x_q.al
   have q_lo := x_lo.al
   have q_hi := x_hi.al
   have hv := Below.refl v12.heap.size v12
   have l_r_v := x_r.lt
   have l_q_v := x_q.lt
   have l_lo_v := x_lo.lt
   have l_hi_v := x_hi.lt
   go_cut [16] (fun s9 wx => NnNew v12 V1 V2 (W : Int) 8 8 s9 wx)
   case first =>
    go_region_held3 (fun w' => w'.cell? ⟨v11.heap.size, 0, none⟩ = some (.bool (ngB S1)) ∧ w'.cell? ⟨v11.heap.size, 1, none⟩ = some (.slice A15 n15 c15) ∧ w'.cell? ⟨v11.heap.size + 1, 0, none⟩ = some (.bool (ngB S2)) ∧ w'.cell? ⟨v11.heap.size + 1, 1, none⟩ = some (.slice A16 n16 c16) ∧ w'.cell? ⟨g8, 0, none⟩ = some (.bool (ngB R1)) ∧ w'.cell? ⟨g8, 1, none⟩ = some (.slice Ax9 nx9 cx9) ∧ w'.cell? ⟨g8, 2, none⟩ = some (.bool (ngB R2)) ∧ w'.cell? ⟨g8, 3, none⟩ = some (.slice Ay9 ny9 cy9) ∧ w'.cell? ⟨g8, 4, none⟩ = some (.int .i64 (W : Int)))
     (first | (with_reducible exact ⟨x_lo.c0, x_lo.c1, x_hi.c0, x_hi.c1, x_q.c0, x_q.c1, x_q.c2, x_q.c3, x_q.c4⟩) | (with_reducible exact ⟨(x_lo.alloc _).c0, (x_lo.alloc _).c1, (x_hi.alloc _).c0, (x_hi.alloc _).c1, (x_q.alloc _).c0, (x_q.alloc _).c1, (x_q.alloc _).c2, (x_q.alloc _).c3, (x_q.alloc _).c4⟩) | (with_reducible exact ⟨(x_lo.asideN (by omega)).c0, (x_lo.asideN (by omega)).c1, (x_hi.asideN (by omega)).c0, (x_hi.asideN (by omega)).c1, (x_q.asideN (by omega)).c0, (x_q.asideN (by omega)).c1, (x_q.asideN (by omega)).c2, (x_q.asideN (by omega)).c3, (x_q.asideN (by omega)).c4⟩) | (with_reducible exact ⟨((x_lo.alloc _).asideN (by omega)).c0, ((x_lo.alloc _).asideN (by omega)).c1, ((x_hi.alloc _).asideN (by omega)).c0, ((x_hi.alloc _).asideN (by omega)).c1, ((x_q.alloc _).asideN (by omega)).c0, ((x_q.alloc _).asideN (by omega)).c1, ((x_q.alloc _).asideN (by omega)).c2, ((x_q.alloc _).asideN (by omega)).c3, ((x_q.alloc _).asideN (by omega)).c4⟩) | go_keep)
     (first | (go_at_call 109; (with_reducible refine (Ewidth_any z1_q.drw z2_q.drw ⟨by omega, by omega, HV.out.2.2.2.1⟩ _ _ HWI.out).mono ?_); rintro e v13 ⟨A21, n21, c21, A22, n22, c22, rfl, z21, z22, hb1⟩; replace hb1 := undrew hb1; (try replace x_v := x_v.keep hb1); replace hv := bthen hv hb1; have hvs_v13 := hv.size; obtain ⟨x_r, x_q, x_lo, x_hi, z1_q, z2_q, z15, z16, hb⟩ := mv9 hb1 x_r x_q x_lo x_hi z1_q z2_q z15 z16 hb; clear hb1; replace q_q := x_q.al; replace q_lo := x_lo.al; replace q_hi := x_hi.al; (try (have q_v0 := x_v.c0; have f_v0 := x_v.fr 0; have q_v1 := x_v.c1; have f_v1 := x_v.fr 1; have q_v2 := x_v.c2; have f_v2 := x_v.fr 2; have q_v3 := x_v.c3; have f_v3 := x_v.fr 3; have q_v4 := x_v.c4; have f_v4 := x_v.fr 4))) | (go_at_call 109; (with_reducible refine (Ewidth_any (z1_q.keep (below_alloc v12 (.cells #[.bool false, .slice none 0 0, .bool false, .slice none 0 0, .int .i64 0] 81))).drw (z2_q.keep (below_alloc v12 (.cells #[.bool false, .slice none 0 0, .bool false, .slice none 0 0, .int .i64 0] 81))).drw ⟨by omega, by omega, HV.out.2.2.2.1⟩ _ _ HWI.out).mono ?_); rintro e v13 ⟨A21, n21, c21, A22, n22, c22, rfl, z21, z22, hb1⟩; replace hb1 := undrew hb1; have x_v := (Nx.new v12 false none 0 0 false none 0 0 0).keep hb1; replace hb1 := bthen (below_alloc v12 (.cells #[.bool false, .slice none 0 0, .bool false, .slice none 0 0, .int .i64 0] 81)) hb1; replace hv := bthen hv hb1; have hvs_v13 := hv.size; obtain ⟨x_r, x_q, x_lo, x_hi, z1_q, z2_q, z15, z16, hb⟩ := mv9 hb1 x_r x_q x_lo x_hi z1_q z2_q z15 z16 hb; clear hb1; replace q_q := x_q.al; replace q_lo := x_lo.al; replace q_hi := x_hi.al; (try (have q_v0 := x_v.c0; have f_v0 := x_v.fr 0; have q_v1 := x_v.c1; have f_v1 := x_v.fr 1; have q_v2 := x_v.c2; have f_v2 := x_v.fr 2; have q_v3 := x_v.c3; have f_v3 := x_v.fr 3; have q_v4 := x_v.c4; have f_v4 := x_v.fr 4))) | (go_at_call 163; (with_reducible refine (Eplus_any z15 z16 z21 z22 ⟨by omega, by omega, HV.out.2.2.2.2.1⟩ HV.out.2.2.2.2.2.2 V1 V2 HPL.out).mono ?_); rintro e v14 ⟨A23, n23, c23, A24, n24, c24, rfl, z23, z24, hb1⟩; (try replace x_v := x_v.keep hb1); replace hv := bthen hv hb1; have hvs_v14 := hv.size; obtain ⟨x_r, x_q, x_lo, x_hi, z1_q, z2_q, z15, z16, z21⟩ := mv9 hb1 x_r x_q x_lo x_hi z1_q z2_q z15 z16 z21; obtain ⟨z22, hb⟩ := mv2 hb1 z22 hb; clear hb1; replace q_q := x_q.al; replace q_lo := x_lo.al; replace q_hi := x_hi.al; (try (have q_v0 := x_v.c0; have f_v0 := x_v.fr 0; have q_v1 := x_v.c1; have f_v1 := x_v.fr 1; have q_v2 := x_v.c2; have f_v2 := x_v.fr 2; have q_v3 := x_v.c3; have f_v3 := x_v.fr 3; have q_v4 := x_v.c4; have f_v4 := x_v.fr 4))) | (go_at_call 163; (with_reducible refine (Eplus_any (z15.keep (below_alloc v13 (.cells #[.bool false, .slice none 0 0, .bool false, .slice none 0 0, .int .i64 0] 81))) (z16.keep (below_alloc v13 (.cells #[.bool false, .slice none 0 0, .bool false, .slice none 0 0, .int .i64 0] 81))) (z21.keep (below_alloc v13 (.cells #[.bool false, .slice none 0 0, .bool false, .slice none 0 0, .int .i64 0] 81))) (z22.keep (below_alloc v13 (.cells #[.bool false, .slice none 0 0, .bool false, .slice none 0 0, .int .i64 0] 81))) ⟨by omega, by omega, HV.out.2.2.2.2.1⟩ HV.out.2.2.2.2.2.2 V1 V2 HPL.out).mono ?_); rintro e v14 ⟨A23, n23, c23, A24, n24, c24, rfl, z23, z24, hb1⟩; have x_v := (Nx.new v13 false none 0 0 false none 0 0 0).keep hb1; replace hb1 := bthen (below_alloc v13 (.cells #[.bool false, .slice none 0 0, .bool false, .slice none 0 0, .int .i64 0] 81)) hb1; replace hv := bthen hv hb1; have hvs_v14 := hv.size; obtain ⟨x_r, x_q, x_lo, x_hi, z1_q, z2_q, z15, z16, z21⟩ := mv9 hb1 x_r x_q x_lo x_hi z1_q z2_q z15 z16 z21; obtain ⟨z22, hb⟩ := mv2 hb1 z22 hb; clear hb1; replace q_q := x_q.al; replace q_lo := x_lo.al; replace q_hi := x_hi.al; (try (have q_v0 := x_v.c0; have f_v0 := x_v.fr 0; have q_v1 := x_v.c1; have f_v1 := x_v.fr 1; have q_v2 := x_v.c2; have f_v2 := x_v.fr 2; have q_v3 := x_v.c3; have f_v3 := x_v.fr 3; have q_v4 := x_v.c4; have f_v4 := x_v.fr 4))))
    all_goals go_wp2_with fail
    all_goals go_meet
    all_goals first | (with_reducible exact NnNew.new hv z23 z24) | (with_reducible exact NnNew.put hv x_v (by omega) z23 z24)
   obtain ⟨g15, Ax16, nx16, cx16, Ay16, ny16, cy16, rfl, x_v, z1_v, z2_v, e_v, hb1⟩ := hcut
   clear hv
   obtain ⟨x_r, x_q, x_lo, x_hi, z1_q, z2_q, z15, z16, hb⟩ := mv9 hb1 x_r x_q x_lo x_hi z1_q z2_q z15 z16 hb
   clear hb1
   replace q_q := x_q.al
   replace q_lo := x_lo.al
   replace q_hi := x_hi.al
   clear q_q q_lo q_hi
   generalize wc = v17 at *
   have q_q := x_q.al
   have q_lo := x_lo.al
   have q_hi := x_hi.al
   have q_v := x_v.al
   have q_r := x_r.al
   go_wp2_with fail
   clear q_r
   skip
   with_reducible refine (Escaled_any z1_v z2_v ⟨by omega, by omega, HV.out.2.2.2.2.2.1⟩ (-1) (by omega) (-V2) (-V1) HNE.out).mono ?_
   rintro e v18 ⟨A25, n25, c25, A26, n26, c26, rfl, z25, z26, hb1⟩
   obtain ⟨x_r, z1_v, z2_v, hb⟩ := mv4 hb1 x_r z1_v z2_v hb
   clear hb1
   have q_r := x_r.al
   go_wp2
   clear q_r
   refine x_r.st fun v19 hs hx => ?_
   obtain ⟨z25, z26, hb⟩ := ms3 hs ⟨trivial, trivial, by omega⟩ z25 z26 hb
   replace x_r := hx; clear hx hs
   have q_r := x_r.al
   skip
   refine bodyPost_ret (v := .agg #[.bool (ngB (-V2)), .slice A25 n25 c25, .bool (ngB (-V1)), .slice A26 n26 c26, .int .i64 (W : Int)]) (by simp [results, Tryz.results169, go_sem, q_r]) rfl ?_
   exact ⟨_, _, _, _, _, _, rfl, z25, z26, hb⟩
end Go.Proofs.YtjlbngjeekdfcaaGreatDoor
