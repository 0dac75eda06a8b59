/-
 the document's answers for rows: Atanh.
-/
import Derived.Test.YtiikmjnnlckiiaaGreatRexp
import Derived.Test.YtiikmjnnlckiiaaGreatGgath
namespace Go.Proofs.YtiikmjnnlckiiaaGreat
open Go.RowKit
set_option linter.unusedVariables false

/-- The box g holds X now; all else is as it was. -/
def StB (V : World) (g : Nat) (X : Int) (wx : World) : Prop := ∃ A n c, Bx wx g (ngB X) A n c ∧ Zn wx A n c X 20 ∧ Gr (.slice (some ⟨g, 0, none⟩) 0 0) V wx
theorem StB.put {V v : World} {g n c n' c' : Nat} {b : Bool} {A A' : Option Addr} {X : Int} (hv : Below V.heap.size V v) (x : Bx v g b A n c) (z : Zn v A' n' c' X 20) : StB V g X ((v.setCell ⟨g, 0, none⟩ (.bool (ngB X))).setCell ⟨g, 1, none⟩ (.slice A' n' c')) := by
 refine ⟨A', n', c', x.put _ _ _ _, z.put x, ⟨⟨hv.os, hv.tape, hv.output, Nat.le_trans hv.size (by simp [World.setCell]), fun k hk hr => ?_⟩, fun _ _ _ _ h => (h.go hv).sput x⟩⟩
 have hne : k ≠ g := fun e => hr (by rw [e]; rfl)
 exact ((Below.heap_setCell _ _ _ k hne).trans (Below.heap_setCell _ _ _ k hne)).trans (hv.block k hk)
theorem ne_box {g k : Nat} (h : k ≠ g) : Value.ownBlock (.slice (some ⟨g, 0, none⟩) 0 0) ≠ some k := fun e => by
 simp [Value.ownBlock] at e
 exact h e.symm
theorem gr_below {B g : Nat} {w0 w w' : World} (hb : Below B w0 w) (hs : B ≤ w.heap.size) (hg : Gr (.slice (some ⟨g, 0, none⟩) 0 0) w w') (hB : B ≤ g) : Below B w0 w' :=
 ⟨hg.grown.os.trans hb.os, hg.grown.tape.trans hb.tape, hg.grown.output.trans hb.output, Nat.le_trans hb.size hg.grown.size, fun k hk => (hg.at_ (Nat.lt_of_lt_of_le hk hs) (ne_box (by omega))).trans (hb.block k hk)⟩
/-- What the loop keeps. -/
def AtRel (w : World) (b : Bool) (A : Option Addr) (n c : Nat) (g0 g1 g2 g3 g4 g5 : Nat) (X U V S T : Int) (wr : World) : Prop :=
 Below w.heap.size w wr ∧ Bx wr w.heap.size b A n c ∧ Bx wr (w.heap.size + 1) false none 0 0 ∧ Bx wr (w.heap.size + 1 + 1) false none 0 0 ∧ Bn wr g0 (X * X) 40 ∧ Bn wr g1 U 20 ∧ Bn wr g2 V 20 ∧ Bn wr g3 S 20 ∧ Bn wr g4 T 20 ∧ Bn wr g5 1 20
theorem wrapR {n : Int} (h0 : -9223372036854775808 ≤ n) (h1 : n ≤ 9223372036854775807) : IntKind.i64.wrap n = n := IntWalk.i64_in _ ⟨h0, h1⟩
theorem tw_two (Q : Nat) : (2 : Int) ^ (2 * (Q : Int)).toNat = twP Q * twP Q := by
 rw [show (2 * (Q : Int)).toNat = Q + Q by omega, Int.pow_add]; rfl
theorem dn_one (U : Int) (k : Nat) : U * 1 / 2 ^ (0 : Int).toNat / (2 * (k : Int) + 1) = U / (2 * k + 1) := by simp
theorem up_one (U : Int) (k : Nat) : -(-(-(-(U * 1) / 2 ^ (0 : Int).toNat)) / (2 * (k : Int) + 1)) = -(-U / (2 * k + 1)) := by simp
theorem ta_dn (t : Int) (Q k : Nat) : taU t Q k * (t * t) / 2 ^ (2 * (Q : Int)).toNat / 1 = taU t Q (k + 1) := by rw [tw_two, Int.ediv_one]; rfl
theorem ta_up (t : Int) (Q k : Nat) : -(-(-(-(taV t Q k * (t * t)) / 2 ^ (2 * (Q : Int)).toNat)) / 1) = taV t Q (k + 1) := by rw [tw_two, Int.ediv_one, Int.neg_neg]; rfl
theorem ta_cd {t : Int} {q : Nat} (h0 : 0 ≤ t) (h : t ≤ twP q) (k : Nat) : 0 ≤ taC t q k ∧ taC t q k ≤ taD t q k ∧ taD t q k ≤ twP q := by
 have hb := ta_bd h0 h k
 refine ⟨ta_c_nonneg h0 k, ta_c_d h0 k, ?_⟩
 unfold taD
 rw [up_le (two_pos k)]
 have := Int.mul_le_mul_of_nonneg_left (show (1 : Int) ≤ 2 * k + 1 by omega) (Int.le_of_lt (tw_pos q))
 omega

set_option maxRecDepth 100000 in
set_option maxHeartbeats 32000000 in
theorem RAtanh_yes {b : Bool} {A : Option Addr} {n c : Nat} {X : Int} {j : Nat} {w : World} (h : Zr w b A n c X j) (Q M : Nat) (hQ : Q ≤ 1200) (hM : 1 ≤ M ∧ M ≤ 400) (hX : 0 ≤ X ∧ 2 * X ≤ twP Q) (hj : j ≤ 20) :
  Calls Tryz.prog 14 #[.agg #[.bool b, .slice A n c], .int .i64 (Q : Nat), .int .i64 (M : Nat)] w (Ou2 w (rwLo 1 X Q M) (rwHi 1 X Q M) 0 25) := by
 have HMY := Lib.hid (may_yes (d := 1) (e := 1) hQ hM hX.1 (by rw [sc_one]; omega))
 have H1 := Lib.hid h
 have hX1 : X ≤ twP Q := by omega
 have hbd := ta_bd hX.1 hX1
 have hcd := ta_cd hX.1 hX1
 have hsb := sum_bd (fun k => (hcd k).1) (fun k => Int.le_trans (hcd k).2.1 (hcd k).2.2)
 have hsb2 := sum_bd (fun k => Int.le_trans (hcd k).1 (hcd k).2.1) (fun k => (hcd k).2.2)
 have BU : Hid (∀ k, Si (taU X Q k) 20) := Lib.hid fun k => si_tw (K := 1) (by omega) hQ (by have := hbd k; omega) (by have := hbd k; have := tw_pos Q; omega)
 have BV : Hid (∀ k, Si (taV X Q k) 20) := Lib.hid fun k => si_tw (K := 1) (by omega) hQ (by have := hbd k; omega) (by have := hbd k; have := tw_pos Q; omega)
 have BC : Hid (∀ k, Si (taC X Q k) 20) := Lib.hid fun k => si_tw (K := 1) (by omega) hQ (by have := hcd k; omega) (by have := hcd k; have := tw_pos Q; omega)
 have BD : Hid (∀ k, Si (taD X Q k) 20) := Lib.hid fun k => si_tw (K := 1) (by omega) hQ (by have := hcd k; omega) (by have := hcd k; have := tw_pos Q; omega)
 have BS : Hid (∀ k, k ≤ 400 → Si (sumI (taC X Q) k) 20) := Lib.hid fun k hk => si_tw (K := k) (by omega) hQ (hsb k).2 (by have := (hsb k).1; have := Int.mul_nonneg (show (0 : Int) ≤ k by omega) (Int.le_of_lt (tw_pos Q)); omega)
 have BT : Hid (∀ k, k ≤ 400 → Si (sumI (taD X Q) k) 20) := Lib.hid fun k hk => si_tw (K := k) (by omega) hQ (hsb2 k).2 (by have := (hsb2 k).1; have := Int.mul_nonneg (show (0 : Int) ≤ k by omega) (Int.le_of_lt (tw_pos Q)); omega)
 have BX : Hid (Si X 20) := Lib.hid (si_tw (K := 1) (by omega) hQ (by omega) (by have := tw_pos Q; omega))
 clear hbd hcd hsb hsb2 hX hX1
 go_enter Tryz.func14, Tryz.ntmps14
 go_wp2_with fail
 have x_a : Bx (w.alloc (.cells #[.bool b, .slice A n c] 25)) (w.heap.size) b A n c := by have := Bx.new w b A n c; simpa using this
 replace x_a := x_a.alloc (.cells #[.bool false, .slice none 0 0] 25)
 have x_r : Bx ((w.alloc (.cells #[.bool b, .slice A n c] 25)).alloc (.cells #[.bool false, .slice none 0 0] 25)) (w.heap.size + 1) false none 0 0 := by have := Bx.new (w.alloc (.cells #[.bool b, .slice A n c] 25)) false none 0 0; simpa using this
 replace x_a := x_a.alloc (.cells #[.bool false, .slice none 0 0] 25)
 replace x_r := x_r.alloc (.cells #[.bool false, .slice none 0 0] 25)
 have x_p : Bx (((w.alloc (.cells #[.bool b, .slice A n c] 25)).alloc (.cells #[.bool false, .slice none 0 0] 25)).alloc (.cells #[.bool false, .slice none 0 0] 25)) (w.heap.size + 1 + 1) false none 0 0 := by have := Bx.new ((w.alloc (.cells #[.bool b, .slice A n c] 25)).alloc (.cells #[.bool false, .slice none 0 0] 25)) false none 0 0; simpa using this
 have hb : Below w.heap.size w (((w.alloc (.cells #[.bool b, .slice A n c] 25)).alloc (.cells #[.bool false, .slice none 0 0] 25)).alloc (.cells #[.bool false, .slice none 0 0] 25)) := (Below.alloc (Below.alloc (Below.alloc (Below.refl w.heap.size w) (by simp) (.cells #[.bool b, .slice A n c] 25)) (by simp) (.cells #[.bool false, .slice none 0 0] 25)) (by simp; omega) (.cells #[.bool false, .slice none 0 0] 25))
 generalize ((w.alloc (.cells #[.bool b, .slice A n c] 25)).alloc (.cells #[.bool false, .slice none 0 0] 25)).alloc (.cells #[.bool false, .slice none 0 0] 25) = v1 at *
 replace h := h.keep hb
 have q_a := x_a.al
 have q_r := x_r.al
 have q_p := x_p.al
 go_wp2_with fail
 with_reducible refine (Rmay_any h Q M 1 1 (by omega) (by omega)).mono ?_
 rintro e v2 ⟨rfl, hb1⟩
 obtain ⟨x_a, x_r, x_p, h⟩ := mv4 hb1 x_a x_r x_p h
 replace hb := bthen hb hb1
 clear hb1
 replace q_a := x_a.al
 replace q_r := x_r.al
 replace q_p := x_p.al
 rw [HMY.out]
 clear q_r
 clear q_p
 go_wp2_with fail
 with_reducible refine (RMulZ_any h h 40 (by omega) (by omega)).mono ?_
 rintro e v3 ⟨A5, n5, c5, rfl, z5, hb1⟩
 obtain ⟨x_a, x_r, x_p, h⟩ := mv4 hb1 x_a x_r x_p h
 replace hb := bthen hb hb1
 clear hb1
 replace q_a := x_a.al
 go_upto_region 5 with fail
 have hb1 := below_alloc v3 (.cells #[.bool (ngB (X * X)), .slice A5 n5 c5] 25)
 have l_a_q := x_a.lt
 have l_r_q := x_r.lt
 have l_p_q := x_p.lt
 have x_q := Bx.new v3 (ngB (X * X)) A5 n5 c5
 have e_q : w.heap.size ≤ v3.heap.size := hb.size
 clear q_a
 obtain ⟨x_a, x_r, x_p, h, z5⟩ := mv5 hb1 x_a x_r x_p h z5
 replace hb := bthen hb hb1
 clear hb1
 generalize v3.alloc (.cells #[.bool (ngB (X * X)), .slice A5 n5 c5] 25) = v4 at *
 have q_a := x_a.al
 have q_q := x_q.al
 go_wp2_with fail
 with_reducible refine (RNormZ_any h 20 (by omega) (by omega)).mono ?_
 rintro e v5 ⟨A8, n8, c8, rfl, z8, hb1⟩
 obtain ⟨x_a, x_r, x_p, x_q, h, z5⟩ := mv6 hb1 x_a x_r x_p x_q h z5
 replace hb := bthen hb hb1
 clear hb1
 replace q_a := x_a.al
 replace q_q := x_q.al
 go_upto_region 6 with fail
 have hb1 := below_alloc v5 (.cells #[.bool (ngB X), .slice A8 n8 c8] 25)
 have l_a_u := x_a.lt
 have l_r_u := x_r.lt
 have l_p_u := x_p.lt
 have l_q_u := x_q.lt
 have x_u := Bx.new v5 (ngB X) A8 n8 c8
 have e_u : w.heap.size ≤ v5.heap.size := hb.size
 clear q_a q_q
 obtain ⟨x_a, x_r, x_p, x_q, h, z5, z8⟩ := mv7 hb1 x_a x_r x_p x_q h z5 z8
 replace hb := bthen hb hb1
 clear hb1
 generalize v5.alloc (.cells #[.bool (ngB X), .slice A8 n8 c8] 25) = v6 at *
 have q_a := x_a.al
 have q_q := x_q.al
 have q_u := x_u.al
 go_upto_region 7 with fail
 have hb1 := below_alloc v6 (.cells #[.bool (ngB X), .slice A8 n8 c8] 25)
 have l_a_v := x_a.lt
 have l_r_v := x_r.lt
 have l_p_v := x_p.lt
 have l_q_v := x_q.lt
 have l_u_v := x_u.lt
 have x_v := Bx.new v6 (ngB X) A8 n8 c8
 have e_v : w.heap.size ≤ v6.heap.size := hb.size
 clear q_a q_q q_u
 obtain ⟨x_a, x_r, x_p, x_q, x_u, h, z5, z8⟩ := mv8 hb1 x_a x_r x_p x_q x_u h z5 z8
 replace hb := bthen hb hb1
 clear hb1
 generalize v6.alloc (.cells #[.bool (ngB X), .slice A8 n8 c8] 25) = v7 at *
 have q_a := x_a.al
 have q_q := x_q.al
 have q_u := x_u.al
 have q_v := x_v.al
 go_upto_region 8 with fail
 have hb1 := below_alloc v7 (.cells #[.bool false, .slice none 0 0] 25)
 have l_a_s := x_a.lt
 have l_r_s := x_r.lt
 have l_p_s := x_p.lt
 have l_q_s := x_q.lt
 have l_u_s := x_u.lt
 have l_v_s := x_v.lt
 have x_s := Bx.new v7 false none 0 0
 have e_s : w.heap.size ≤ v7.heap.size := hb.size
 clear q_a q_q q_u q_v
 obtain ⟨x_a, x_r, x_p, x_q, x_u, x_v, h, z5, z8⟩ := mv9 hb1 x_a x_r x_p x_q x_u x_v h z5 z8
 replace hb := bthen hb hb1
 clear hb1
 generalize v7.alloc (.cells #[.bool false, .slice none 0 0] 25) = v8 at *
 have q_a := x_a.al
 have q_q := x_q.al
 have q_u := x_u.al
 have q_v := x_v.al
 have q_s := x_s.al
 go_upto_region 9 with fail
 have hb1 := below_alloc v8 (.cells #[.bool false, .slice none 0 0] 25)
 have l_a_t := x_a.lt
 have l_r_t := x_r.lt
 have l_p_t := x_p.lt
 have l_q_t := x_q.lt
 have l_u_t := x_u.lt
 have l_v_t := x_v.lt
 have l_s_t := x_s.lt
 have x_t := Bx.new v8 false none 0 0
 have e_t : w.heap.size ≤ v8.heap.size := hb.size
 clear q_a q_q q_u q_v q_s
 obtain ⟨x_a, x_r, x_p, x_q, x_u, x_v, x_s, h, z5⟩ := mv9 hb1 x_a x_r x_p x_q x_u x_v x_s h z5
 replace z8 := z8.keep hb1
 replace hb := bthen hb hb1
 clear hb1
 generalize v8.alloc (.cells #[.bool false, .slice none 0 0] 25) = v9 at *
 have q_a := x_a.al
 have q_q := x_q.al
 have q_u := x_u.al
 have q_v := x_v.al
 have q_s := x_s.al
 have q_t := x_t.al
 go_wp2_with fail
 with_reducible refine (ROf_any 1 (by omega) (by omega)).mono ?_
 rintro e v10 ⟨A9, n9, c9, rfl, z9, hb1⟩
 obtain ⟨x_a, x_r, x_p, x_q, x_u, x_v, x_s, x_t, h⟩ := mv9 hb1 x_a x_r x_p x_q x_u x_v x_s x_t h
 obtain ⟨z5, z8⟩ := mv2 hb1 z5 z8
 replace hb := bthen hb hb1
 clear hb1
 replace q_a := x_a.al
 replace q_q := x_q.al
 replace q_u := x_u.al
 replace q_v := x_v.al
 replace q_s := x_s.al
 replace q_t := x_t.al
 go_upto_region 10 with fail
 have hb1 := below_alloc v10 (.cells #[.bool (ngB 1), .slice A9 n9 c9] 25)
 have l_a_o := x_a.lt
 have l_r_o := x_r.lt
 have l_p_o := x_p.lt
 have l_q_o := x_q.lt
 have l_u_o := x_u.lt
 have l_v_o := x_v.lt
 have l_s_o := x_s.lt
 have l_t_o := x_t.lt
 have x_o := Bx.new v10 (ngB 1) A9 n9 c9
 have e_o : w.heap.size ≤ v10.heap.size := hb.size
 clear q_a q_q q_u q_v q_s q_t
 obtain ⟨x_a, x_r, x_p, x_q, x_u, x_v, x_s, x_t, h⟩ := mv9 hb1 x_a x_r x_p x_q x_u x_v x_s x_t h
 obtain ⟨z5, z8, z9⟩ := mv3 hb1 z5 z8 z9
 replace hb := bthen hb hb1
 clear hb1
 generalize v10.alloc (.cells #[.bool (ngB 1), .slice A9 n9 c9] 25) = v11 at *
 have q_a := x_a.al
 have q_q := x_q.al
 have q_u := x_u.al
 have q_v := x_v.al
 have q_s := x_s.al
 have q_t := x_t.al
 have q_o := x_o.al
 go_wp2_with fail
 have hrel0 : AtRel w b A n c (v3.heap.size) (v5.heap.size) (v6.heap.size) (v7.heap.size) (v8.heap.size) (v10.heap.size) X (taU X Q 0) (taV X Q 0) (sumI (taC X Q) 0) (sumI (taD X Q) 0) v11 := ⟨hb, x_a, x_r, x_p, ⟨_, _, _, x_q, z5⟩, ⟨_, _, _, x_u, z8⟩, ⟨_, _, _, x_v, z8⟩, ⟨_, _, _, x_s, Zn.nl _ _⟩, ⟨_, _, _, x_t, Zn.nl _ _⟩, ⟨_, _, _, x_o, z9.wide (by omega)⟩⟩
 clear q_a q_q q_u q_v q_s q_t q_o
 obtain ⟨g0, hg0⟩ : ∃ g, v3.heap.size = g := ⟨_, rfl⟩
 obtain ⟨g1, hg1⟩ : ∃ g, v5.heap.size = g := ⟨_, rfl⟩
 obtain ⟨g2, hg2⟩ : ∃ g, v6.heap.size = g := ⟨_, rfl⟩
 obtain ⟨g3, hg3⟩ : ∃ g, v7.heap.size = g := ⟨_, rfl⟩
 obtain ⟨g4, hg4⟩ : ∃ g, v8.heap.size = g := ⟨_, rfl⟩
 obtain ⟨g5, hg5⟩ : ∃ g, v10.heap.size = g := ⟨_, rfl⟩
 have hgs : w.heap.size + 2 < g0 ∧ g0 < g1 ∧ g1 < g2 ∧ g2 < g3 ∧ g3 < g4 ∧ g4 < g5 := by have := x_a.lt; omega
 rw [hg0, hg1, hg2, hg3, hg4, hg5] at hrel0
 simp only [hg0, hg1, hg2, hg3, hg4, hg5]
 clear hb x_a x_r x_p x_q x_u x_v x_s x_t x_o z5 z8 z9 h hg0 hg1 hg2 hg3 hg4 hg5
 go_loopw [16] (fun kv wr => ∃ k : Nat, k ≤ M ∧ kv = .int .i64 (k : Int) ∧ AtRel w b A n c g0 g1 g2 g3 g4 g5 X (taU X Q k) (taV X Q k) (sumI (taC X Q) k) (sumI (taD X Q) k) wr) (fun kv _ => M + 2 - (intOf kv).toNat)
 case atStart => exact ⟨0, by omega, rfl, hrel0⟩
 case round =>
  clear hrel0
  obtain ⟨k, hk, rfl, hb, x_a, x_r, x_p, ⟨Aq, nq, cq, x_q, z_q⟩, ⟨Au, nu, cu, x_u, z_u⟩, ⟨Av, nv, cv, x_v, z_v⟩, ⟨As, ns, cs, x_s, z_s⟩, ⟨At, nt, ct, x_t, z_t⟩, ⟨Ao, no, co, x_o, z_o⟩⟩ := hrel
  obtain ⟨U, hU⟩ : ∃ e, taU X Q k = e := ⟨_, rfl⟩
  obtain ⟨V, hV⟩ : ∃ e, taV X Q k = e := ⟨_, rfl⟩
  obtain ⟨S, hS⟩ : ∃ e, sumI (taC X Q) k = e := ⟨_, rfl⟩
  obtain ⟨T, hT⟩ : ∃ e, sumI (taD X Q) k = e := ⟨_, rfl⟩
  rw [hU] at x_u z_u; rw [hV] at x_v z_v; rw [hS] at x_s z_s; rw [hT] at x_t z_t
  obtain ⟨C, hC⟩ : ∃ e, taC X Q k = e := ⟨_, rfl⟩
  obtain ⟨E, hE⟩ : ∃ e, taD X Q k = e := ⟨_, rfl⟩
  have HD : Hid (-(-(-(-(V * 1) / 2 ^ (0 : Int).toNat)) / (2 * (k : Int) + 1)) = E) := Lib.hid (by rw [up_one, ← hV]; exact hE)
  have BE : Hid (Si E 20) := Lib.hid (by rw [← hE]; exact BD.out _)
  rcases (show k = M ∨ k < M by omega) with hk2 | hk2
  ·have HS : Hid (rwLo 1 X Q M = S) := Lib.hid (by rw [← hk2]; exact hS)
   have HH : Hid (T + (E + E) = rwHi 1 X Q M) := Lib.hid (by rw [← hT, ← hE, hk2]; show _ = sumI (taD X Q) M + 2 * taD X Q M; omega)
   clear hU hV hS hT hC hE
   obtain ⟨H, hH⟩ : ∃ H, rwHi 1 X Q M = H := ⟨_, rfl⟩
   rw [hH] at HH
   have HHI := Lib.hid hH; clear hH
   subst hk2
   have q_r := x_r.al
   have q_p := x_p.al
   have q_v := x_v.al
   have q_s := x_s.al
   have q_t := x_t.al
   have q_o := x_o.al
   go_wp2_with fail
   with_reducible refine (Rup_any z_v.zr z_o.zr (2 * (k : Int) + 1) 0 (by omega) (by omega) (by omega)).mono ?_
   rintro e v31 ⟨A8, n8, c8, rfl, z8, hb1⟩
   obtain ⟨x_a, x_r, x_p, x_q, x_u, x_v, x_s, x_t, x_o⟩ := mv9 hb1 x_a x_r x_p x_q x_u x_v x_s x_t x_o
   obtain ⟨z_q, z_u, z_v, z_s, z_t, z_o⟩ := mv6 hb1 z_q z_u z_v z_s z_t z_o
   replace hb := bthen hb hb1
   clear hb1
   replace q_r := x_r.al
   replace q_p := x_p.al
   replace q_v := x_v.al
   replace q_s := x_s.al
   replace q_t := x_t.al
   replace q_o := x_o.al
   rw [HD.out] at z8 ⊢
   replace z8 := z8.slim BE.out
   go_upto_region 18 with fail
   have hb1 := below_alloc v31 (.cells #[.bool (ngB E), .slice A8 n8 c8] 25)
   have l_a_d := x_a.lt
   have l_r_d := x_r.lt
   have l_p_d := x_p.lt
   have l_q_d := x_q.lt
   have l_u_d := x_u.lt
   have l_v_d := x_v.lt
   have l_s_d := x_s.lt
   have l_t_d := x_t.lt
   have l_o_d := x_o.lt
   have x_d := Bx.new v31 (ngB E) A8 n8 c8
   have e_d : w.heap.size ≤ v31.heap.size := hb.size
   clear q_r q_p q_v q_s q_t q_o
   obtain ⟨x_a, x_r, x_p, x_q, x_u, x_v, x_s, x_t, x_o⟩ := mv9 hb1 x_a x_r x_p x_q x_u x_v x_s x_t x_o
   obtain ⟨z_q, z_u, z_v, z_s, z_t, z_o, z8⟩ := mv7 hb1 z_q z_u z_v z_s z_t z_o z8
   replace hb := bthen hb hb1
   clear hb1
   generalize v31.alloc (.cells #[.bool (ngB E), .slice A8 n8 c8] 25) = v32 at *
   have q_r := x_r.al
   have q_p := x_p.al
   have q_v := x_v.al
   have q_s := x_s.al
   have q_t := x_t.al
   have q_o := x_o.al
   have q_d := x_d.al
   clear q_v
   clear q_o
   go_wp2_with fail
   go_region_held3 (fun w' => w'.cell? ⟨g3, 0, none⟩ = some (.bool (ngB S)) ∧ w'.cell? ⟨g3, 1, none⟩ = some (.slice As ns cs) ∧ w'.cell? ⟨g4, 0, none⟩ = some (.bool (ngB T)) ∧ w'.cell? ⟨g4, 1, none⟩ = some (.slice At nt ct) ∧ w'.cell? ⟨v31.heap.size, 0, none⟩ = some (.bool (ngB E)) ∧ w'.cell? ⟨v31.heap.size, 1, none⟩ = some (.slice A8 n8 c8))
    (first | (with_reducible exact ⟨x_s.c0, x_s.c1, x_t.c0, x_t.c1, x_d.c0, x_d.c1⟩) | (with_reducible exact ⟨(x_s.aside (by omega)).c0, (x_s.aside (by omega)).c1, (x_t.aside (by omega)).c0, (x_t.aside (by omega)).c1, (x_d.aside (by omega)).c0, (x_d.aside (by omega)).c1⟩) | (with_reducible exact ⟨((x_s.aside (by omega)).aside (by omega)).c0, ((x_s.aside (by omega)).aside (by omega)).c1, ((x_t.aside (by omega)).aside (by omega)).c0, ((x_t.aside (by omega)).aside (by omega)).c1, ((x_d.aside (by omega)).aside (by omega)).c0, ((x_d.aside (by omega)).aside (by omega)).c1⟩) | (with_reducible exact ⟨(x_s.asideD (by omega)).c0, (x_s.asideD (by omega)).c1, (x_t.asideD (by omega)).c0, (x_t.asideD (by omega)).c1, (x_d.asideD (by omega)).c0, (x_d.asideD (by omega)).c1⟩) | (with_reducible exact ⟨((x_s.asideD (by omega)).asideD (by omega)).c0, ((x_s.asideD (by omega)).asideD (by omega)).c1, ((x_t.asideD (by omega)).asideD (by omega)).c0, ((x_t.asideD (by omega)).asideD (by omega)).c1, ((x_d.asideD (by omega)).asideD (by omega)).c0, ((x_d.asideD (by omega)).asideD (by omega)).c1⟩) | (with_reducible exact ⟨(x_s.asideL (by omega)).c0, (x_s.asideL (by omega)).c1, (x_t.asideL (by omega)).c0, (x_t.asideL (by omega)).c1, (x_d.asideL (by omega)).c0, (x_d.asideL (by omega)).c1⟩) | (with_reducible exact ⟨((x_s.asideL (by omega)).asideL (by omega)).c0, ((x_s.asideL (by omega)).asideL (by omega)).c1, ((x_t.asideL (by omega)).asideL (by omega)).c0, ((x_t.asideL (by omega)).asideL (by omega)).c1, ((x_d.asideL (by omega)).asideL (by omega)).c0, ((x_d.asideL (by omega)).asideL (by omega)).c1⟩) | go_keep)
    (first | (go_at_call 33; (with_reducible refine (RAddZ_any z8.drw.zr z8.drw.zr 21 (by omega) (by omega) (by omega)).mono ?_); rintro e v33 ⟨A5, n5, c5, rfl, z5, hb1⟩; replace hb1 := undrew hb1; obtain ⟨x_a, x_r, x_p, x_q, x_u, x_v, x_s, x_t, x_o⟩ := mv9 hb1 x_a x_r x_p x_q x_u x_v x_s x_t x_o; obtain ⟨x_d, z_q, z_u, z_v, z_s, z_t, z_o, z8⟩ := mv8 hb1 x_d z_q z_u z_v z_s z_t z_o z8; replace hb := bthen hb hb1; clear hb1; replace q_r := x_r.al; replace q_p := x_p.al; replace q_s := x_s.al; replace q_t := x_t.al; replace q_d := x_d.al) | (go_at_call 33; (with_reducible refine (RAddZ_any z_t.zr z5.zr 22 (by omega) (by omega) (by omega)).mono ?_); rintro e v34 ⟨A6, n6, c6, rfl, z6, hb1⟩; obtain ⟨x_a, x_r, x_p, x_q, x_u, x_v, x_s, x_t, x_o⟩ := mv9 hb1 x_a x_r x_p x_q x_u x_v x_s x_t x_o; obtain ⟨x_d, z_q, z_u, z_v, z_s, z_t, z_o, z8, z5⟩ := mv9 hb1 x_d z_q z_u z_v z_s z_t z_o z8 z5; replace hb := bthen hb hb1; clear hb1; replace q_r := x_r.al; replace q_p := x_p.al; replace q_s := x_s.al; replace q_t := x_t.al; replace q_d := x_d.al; rw [HH.out] at z6 ⊢))
   replace z_s := z_s.wide (show 20 ≤ 25 by omega)
   replace z6 := z6.wide (show 22 ≤ 25 by omega)
   go_wp2
   replace x_a := x_a.aside (b' := (ngB S)) (A' := As) (n' := ns) (c' := cs) (g := w.heap.size + 1) (by omega)
   replace x_p := x_p.aside (b' := (ngB S)) (A' := As) (n' := ns) (c' := cs) (g := w.heap.size + 1) (by omega)
   replace x_q := x_q.aside (b' := (ngB S)) (A' := As) (n' := ns) (c' := cs) (g := w.heap.size + 1) (by omega)
   replace x_u := x_u.aside (b' := (ngB S)) (A' := As) (n' := ns) (c' := cs) (g := w.heap.size + 1) (by omega)
   replace x_v := x_v.aside (b' := (ngB S)) (A' := As) (n' := ns) (c' := cs) (g := w.heap.size + 1) (by omega)
   replace x_s := x_s.aside (b' := (ngB S)) (A' := As) (n' := ns) (c' := cs) (g := w.heap.size + 1) (by omega)
   replace x_t := x_t.aside (b' := (ngB S)) (A' := As) (n' := ns) (c' := cs) (g := w.heap.size + 1) (by omega)
   replace x_o := x_o.aside (b' := (ngB S)) (A' := As) (n' := ns) (c' := cs) (g := w.heap.size + 1) (by omega)
   replace x_d := x_d.aside (b' := (ngB S)) (A' := As) (n' := ns) (c' := cs) (g := w.heap.size + 1) (by omega)
   replace z_q := z_q.put (b' := (ngB S)) (A' := As) (n' := ns) (c' := cs) x_r
   replace z_u := z_u.put (b' := (ngB S)) (A' := As) (n' := ns) (c' := cs) x_r
   replace z_v := z_v.put (b' := (ngB S)) (A' := As) (n' := ns) (c' := cs) x_r
   replace z_s := z_s.put (b' := (ngB S)) (A' := As) (n' := ns) (c' := cs) x_r
   replace z_t := z_t.put (b' := (ngB S)) (A' := As) (n' := ns) (c' := cs) x_r
   replace z_o := z_o.put (b' := (ngB S)) (A' := As) (n' := ns) (c' := cs) x_r
   replace z8 := z8.put (b' := (ngB S)) (A' := As) (n' := ns) (c' := cs) x_r
   replace z5 := z5.put (b' := (ngB S)) (A' := As) (n' := ns) (c' := cs) x_r
   replace z6 := z6.put (b' := (ngB S)) (A' := As) (n' := ns) (c' := cs) x_r
   replace hb := put_below (g := w.heap.size + 1) hb (by omega) (.bool (ngB S)) (.slice As ns cs)
   replace x_r := x_r.put (ngB S) As ns cs
   clear q_r q_p q_s q_t q_d
   generalize (v34.setCell ⟨w.heap.size + 1, 0, none⟩ (.bool (ngB S))).setCell ⟨w.heap.size + 1, 1, none⟩ (.slice As ns cs) = v35 at *
   have q_r := x_r.al
   have q_p := x_p.al
   have q_s := x_s.al
   have q_t := x_t.al
   have q_d := x_d.al
   replace x_a := x_a.aside (b' := (ngB H)) (A' := A6) (n' := n6) (c' := c6) (g := w.heap.size + 1 + 1) (by omega)
   replace x_r := x_r.aside (b' := (ngB H)) (A' := A6) (n' := n6) (c' := c6) (g := w.heap.size + 1 + 1) (by omega)
   replace x_q := x_q.aside (b' := (ngB H)) (A' := A6) (n' := n6) (c' := c6) (g := w.heap.size + 1 + 1) (by omega)
   replace x_u := x_u.aside (b' := (ngB H)) (A' := A6) (n' := n6) (c' := c6) (g := w.heap.size + 1 + 1) (by omega)
   replace x_v := x_v.aside (b' := (ngB H)) (A' := A6) (n' := n6) (c' := c6) (g := w.heap.size + 1 + 1) (by omega)
   replace x_s := x_s.aside (b' := (ngB H)) (A' := A6) (n' := n6) (c' := c6) (g := w.heap.size + 1 + 1) (by omega)
   replace x_t := x_t.aside (b' := (ngB H)) (A' := A6) (n' := n6) (c' := c6) (g := w.heap.size + 1 + 1) (by omega)
   replace x_o := x_o.aside (b' := (ngB H)) (A' := A6) (n' := n6) (c' := c6) (g := w.heap.size + 1 + 1) (by omega)
   replace x_d := x_d.aside (b' := (ngB H)) (A' := A6) (n' := n6) (c' := c6) (g := w.heap.size + 1 + 1) (by omega)
   replace z_q := z_q.put (b' := (ngB H)) (A' := A6) (n' := n6) (c' := c6) x_p
   replace z_u := z_u.put (b' := (ngB H)) (A' := A6) (n' := n6) (c' := c6) x_p
   replace z_v := z_v.put (b' := (ngB H)) (A' := A6) (n' := n6) (c' := c6) x_p
   replace z_s := z_s.put (b' := (ngB H)) (A' := A6) (n' := n6) (c' := c6) x_p
   replace z_t := z_t.put (b' := (ngB H)) (A' := A6) (n' := n6) (c' := c6) x_p
   replace z_o := z_o.put (b' := (ngB H)) (A' := A6) (n' := n6) (c' := c6) x_p
   replace z8 := z8.put (b' := (ngB H)) (A' := A6) (n' := n6) (c' := c6) x_p
   replace z5 := z5.put (b' := (ngB H)) (A' := A6) (n' := n6) (c' := c6) x_p
   replace z6 := z6.put (b' := (ngB H)) (A' := A6) (n' := n6) (c' := c6) x_p
   replace hb := put_below (g := w.heap.size + 1 + 1) hb (by omega) (.bool (ngB H)) (.slice A6 n6 c6)
   replace x_p := x_p.put (ngB H) A6 n6 c6
   clear q_r q_p q_s q_t q_d
   generalize (v35.setCell ⟨w.heap.size + 1 + 1, 0, none⟩ (.bool (ngB H))).setCell ⟨w.heap.size + 1 + 1, 1, none⟩ (.slice A6 n6 c6) = v36 at *
   have q_r := x_r.al
   have q_p := x_p.al
   have q_s := x_s.al
   have q_t := x_t.al
   have q_d := x_d.al
   refine bodyPost_ret (v := .tuple #[.agg #[.bool (ngB S), .slice As ns cs], .agg #[.bool (ngB H), .slice A6 n6 c6], .int .i64 0]) (by simp [results, Tryz.results14, go_sem, q_r, q_p]) rfl ?_
   exact Ou2.mk HS.out HHI.out z_s z6 hb
  ·have HC : Hid (U * 1 / 2 ^ (0 : Int).toNat / (2 * (k : Int) + 1) = C) := Lib.hid (by rw [dn_one, ← hU]; exact hC)
   have BC1 : Hid (Si C 20) := Lib.hid (by rw [← hC]; exact BC.out _)
   obtain ⟨U1, hU1⟩ : ∃ e, taU X Q (k + 1) = e := ⟨_, rfl⟩
   have HU1 : Hid (U * (X * X) / 2 ^ (2 * (Q : Int)).toNat / 1 = U1) := Lib.hid (by rw [← hU]; exact (ta_dn X Q k).trans hU1)
   have EU1 := Lib.hid hU1
   obtain ⟨V1, hV1⟩ : ∃ e, taV X Q (k + 1) = e := ⟨_, rfl⟩
   have HV1 : Hid (-(-(-(-(V * (X * X)) / 2 ^ (2 * (Q : Int)).toNat)) / 1) = V1) := Lib.hid (by rw [← hV]; exact (ta_up X Q k).trans hV1)
   have EV1 := Lib.hid hV1
   obtain ⟨S1, hS1⟩ : ∃ e, sumI (taC X Q) (k + 1) = e := ⟨_, rfl⟩
   have HS1 : Hid (S + C = S1) := Lib.hid (by rw [← hS, ← hC]; exact hS1)
   have ES1 := Lib.hid hS1
   obtain ⟨T1, hT1⟩ : ∃ e, sumI (taD X Q) (k + 1) = e := ⟨_, rfl⟩
   have HT1 : Hid (T + E = T1) := Lib.hid (by rw [← hT, ← hE]; exact hT1)
   have ET1 := Lib.hid hT1
   have B1 : Hid (Si U1 20) := Lib.hid (by rw [← hU1]; exact BU.out _); have B2 : Hid (Si V1 20) := Lib.hid (by rw [← hV1]; exact BV.out _); have B3 : Hid (Si S1 20) := Lib.hid (by rw [← hS1]; exact BS.out _ (by omega)); have B4 : Hid (Si T1 20) := Lib.hid (by rw [← hT1]; exact BT.out _ (by omega))
   clear hU hV hS hT hC hE hU1 hV1 hS1 hT1
   have q_q := x_q.al
   have q_u := x_u.al
   have q_v := x_v.al
   have q_s := x_s.al
   have q_t := x_t.al
   have q_o := x_o.al
   have w1 : IntKind.i64.wrap (2 * (k : Int)) = 2 * (k : Int) := wrapR (by omega) (by omega)
   have w2 : IntKind.i64.wrap (2 * (k : Int) + 1) = 2 * (k : Int) + 1 := wrapR (by omega) (by omega)
   go_upto_region 13 with fail
   have hv := Below.refl wr.heap.size wr
   go_cut [47] (fun _ wx => StB wr (g3) S1 wx)
   case first =>
    go_region_law (first | (go_simp; go_at_call 37; (with_reducible refine (Rdown_any z_u.drw.zr z_o.drw.zr (2 * (k : Int) + 1) 0 (by omega) (by omega) (by omega)).mono ?_); rintro e v31 ⟨A9, n9, c9, rfl, z9, hb1⟩; replace hb1 := undrew hb1; replace hv := bthen hv hb1; obtain ⟨x_a, x_r, x_p, x_q, x_u, x_v, x_s, x_t, x_o⟩ := mv9 hb1 x_a x_r x_p x_q x_u x_v x_s x_t x_o; obtain ⟨z_q, z_u, z_v, z_s, z_t, z_o⟩ := mv6 hb1 z_q z_u z_v z_s z_t z_o; replace hb := bthen hb hb1; clear hb1; replace q_q := x_q.al; replace q_u := x_u.al; replace q_v := x_v.al; replace q_s := x_s.al; replace q_t := x_t.al; replace q_o := x_o.al; rw [HC.out] at z9 ⊢; replace z9 := z9.slim BC1.out) | (go_simp; go_at_call 33; (with_reducible refine (RAddZ_any z_s.zr z9.zr 21 (by omega) (by omega) (by omega)).mono ?_); rintro e v32 ⟨A5, n5, c5, rfl, z5, hb1⟩; replace hv := bthen hv hb1; obtain ⟨x_a, x_r, x_p, x_q, x_u, x_v, x_s, x_t, x_o⟩ := mv9 hb1 x_a x_r x_p x_q x_u x_v x_s x_t x_o; obtain ⟨z_q, z_u, z_v, z_s, z_t, z_o, z9⟩ := mv7 hb1 z_q z_u z_v z_s z_t z_o z9; replace hb := bthen hb hb1; clear hb1; replace q_q := x_q.al; replace q_u := x_u.al; replace q_v := x_v.al; replace q_s := x_s.al; replace q_t := x_t.al; replace q_o := x_o.al; rw [HS1.out] at z5 ⊢; replace z5 := z5.slim B3.out))
    all_goals go_wp2_with fail
    all_goals go_meet
    all_goals exact StB.put hv x_s z5
   obtain ⟨Ax33, nx33, cx33, x_N, z_N33, hgr⟩ := hcut
   clear hv x_s
   replace x_a := x_a.gr hgr (ne_box (by omega))
   replace x_r := x_r.gr hgr (ne_box (by omega))
   replace x_p := x_p.gr hgr (ne_box (by omega))
   replace x_q := x_q.gr hgr (ne_box (by omega))
   replace x_u := x_u.gr hgr (ne_box (by omega))
   replace x_v := x_v.gr hgr (ne_box (by omega))
   replace x_t := x_t.gr hgr (ne_box (by omega))
   replace x_o := x_o.gr hgr (ne_box (by omega))
   replace z_q := z_q.gr hgr
   replace z_u := z_u.gr hgr
   replace z_v := z_v.gr hgr
   replace z_s := z_s.gr hgr
   replace z_t := z_t.gr hgr
   replace z_o := z_o.gr hgr
   replace hb := gr_below hb hb.size hgr (by omega)
   clear q_s
   clear q_q q_u q_v q_t q_o
   generalize wc = v34 at *
   have x_s := x_N; clear x_N hgr
   have q_q := x_q.al
   have q_u := x_u.al
   have q_v := x_v.al
   have q_t := x_t.al
   have q_o := x_o.al
   have q_s := x_s.al
   go_upto_region 14 with fail
   have hv := Below.refl v34.heap.size v34
   go_cut [55] (fun _ wx => StB v34 (g4) T1 wx)
   case first =>
    go_region_law (first | (go_simp; go_at_call 38; (with_reducible refine (Rup_any z_v.drw.zr z_o.drw.zr (2 * (k : Int) + 1) 0 (by omega) (by omega) (by omega)).mono ?_); rintro e v35 ⟨A10, n10, c10, rfl, z10, hb1⟩; replace hb1 := undrew hb1; replace hv := bthen hv hb1; obtain ⟨x_a, x_r, x_p, x_q, x_u, x_v, x_t, x_o, x_s⟩ := mv9 hb1 x_a x_r x_p x_q x_u x_v x_t x_o x_s; obtain ⟨z_q, z_u, z_v, z_s, z_t, z_o, z_N33⟩ := mv7 hb1 z_q z_u z_v z_s z_t z_o z_N33; replace hb := bthen hb hb1; clear hb1; replace q_q := x_q.al; replace q_u := x_u.al; replace q_v := x_v.al; replace q_t := x_t.al; replace q_o := x_o.al; replace q_s := x_s.al; rw [HD.out] at z10 ⊢; replace z10 := z10.slim BE.out) | (go_simp; go_at_call 33; (with_reducible refine (RAddZ_any z_t.zr z10.zr 21 (by omega) (by omega) (by omega)).mono ?_); rintro e v36 ⟨A6, n6, c6, rfl, z6, hb1⟩; replace hv := bthen hv hb1; obtain ⟨x_a, x_r, x_p, x_q, x_u, x_v, x_t, x_o, x_s⟩ := mv9 hb1 x_a x_r x_p x_q x_u x_v x_t x_o x_s; obtain ⟨z_q, z_u, z_v, z_s, z_t, z_o, z_N33, z10⟩ := mv8 hb1 z_q z_u z_v z_s z_t z_o z_N33 z10; replace hb := bthen hb hb1; clear hb1; replace q_q := x_q.al; replace q_u := x_u.al; replace q_v := x_v.al; replace q_t := x_t.al; replace q_o := x_o.al; replace q_s := x_s.al; rw [HT1.out] at z6 ⊢; replace z6 := z6.slim B4.out))
    all_goals go_wp2_with fail
    all_goals go_meet
    all_goals exact StB.put hv x_t z6
   obtain ⟨Ax37, nx37, cx37, x_N, z_N37, hgr⟩ := hcut
   clear hv x_t
   replace x_a := x_a.gr hgr (ne_box (by omega))
   replace x_r := x_r.gr hgr (ne_box (by omega))
   replace x_p := x_p.gr hgr (ne_box (by omega))
   replace x_q := x_q.gr hgr (ne_box (by omega))
   replace x_u := x_u.gr hgr (ne_box (by omega))
   replace x_v := x_v.gr hgr (ne_box (by omega))
   replace x_o := x_o.gr hgr (ne_box (by omega))
   replace x_s := x_s.gr hgr (ne_box (by omega))
   replace z_q := z_q.gr hgr
   replace z_u := z_u.gr hgr
   replace z_v := z_v.gr hgr
   replace z_s := z_s.gr hgr
   replace z_t := z_t.gr hgr
   replace z_o := z_o.gr hgr
   replace z_N33 := z_N33.gr hgr
   replace hb := gr_below hb hb.size hgr (by omega)
   clear q_t
   clear q_q q_u q_v q_o q_s
   generalize wc = v38 at *
   have x_t := x_N; clear x_N hgr
   have q_q := x_q.al
   have q_u := x_u.al
   have q_v := x_v.al
   have q_o := x_o.al
   have q_s := x_s.al
   have q_t := x_t.al
   go_wp2_with fail
   with_reducible refine (Rdown_any z_u.zr z_q.zr 1 (2 * (Q : Int)) (by omega) (by omega) (by omega)).mono ?_
   rintro e v39 ⟨A7, n7, c7, rfl, z7, hb1⟩
   obtain ⟨x_a, x_r, x_p, x_q, x_u, x_v, x_o, x_s, x_t⟩ := mv9 hb1 x_a x_r x_p x_q x_u x_v x_o x_s x_t
   obtain ⟨z_q, z_u, z_v, z_s, z_t, z_o, z_N33, z_N37⟩ := mv8 hb1 z_q z_u z_v z_s z_t z_o z_N33 z_N37
   replace hb := bthen hb hb1
   clear hb1
   replace q_q := x_q.al
   replace q_u := x_u.al
   replace q_v := x_v.al
   replace q_o := x_o.al
   replace q_s := x_s.al
   replace q_t := x_t.al
   rw [HU1.out] at z7 ⊢
   replace z7 := z7.slim B1.out
   go_wp2_with fail
   replace x_a := x_a.aside (b' := (ngB U1)) (A' := A7) (n' := n7) (c' := c7) (g := g1) (by omega)
   replace x_r := x_r.aside (b' := (ngB U1)) (A' := A7) (n' := n7) (c' := c7) (g := g1) (by omega)
   replace x_p := x_p.aside (b' := (ngB U1)) (A' := A7) (n' := n7) (c' := c7) (g := g1) (by omega)
   replace x_q := x_q.aside (b' := (ngB U1)) (A' := A7) (n' := n7) (c' := c7) (g := g1) (by omega)
   replace x_v := x_v.aside (b' := (ngB U1)) (A' := A7) (n' := n7) (c' := c7) (g := g1) (by omega)
   replace x_o := x_o.aside (b' := (ngB U1)) (A' := A7) (n' := n7) (c' := c7) (g := g1) (by omega)
   replace x_s := x_s.aside (b' := (ngB U1)) (A' := A7) (n' := n7) (c' := c7) (g := g1) (by omega)
   replace x_t := x_t.aside (b' := (ngB U1)) (A' := A7) (n' := n7) (c' := c7) (g := g1) (by omega)
   replace z_q := z_q.put (b' := (ngB U1)) (A' := A7) (n' := n7) (c' := c7) x_u
   replace z_u := z_u.put (b' := (ngB U1)) (A' := A7) (n' := n7) (c' := c7) x_u
   replace z_v := z_v.put (b' := (ngB U1)) (A' := A7) (n' := n7) (c' := c7) x_u
   replace z_s := z_s.put (b' := (ngB U1)) (A' := A7) (n' := n7) (c' := c7) x_u
   replace z_t := z_t.put (b' := (ngB U1)) (A' := A7) (n' := n7) (c' := c7) x_u
   replace z_o := z_o.put (b' := (ngB U1)) (A' := A7) (n' := n7) (c' := c7) x_u
   replace z_N33 := z_N33.put (b' := (ngB U1)) (A' := A7) (n' := n7) (c' := c7) x_u
   replace z_N37 := z_N37.put (b' := (ngB U1)) (A' := A7) (n' := n7) (c' := c7) x_u
   replace z7 := z7.put (b' := (ngB U1)) (A' := A7) (n' := n7) (c' := c7) x_u
   replace hb := put_below (g := g1) hb (by omega) (.bool (ngB U1)) (.slice A7 n7 c7)
   replace x_u := x_u.put (ngB U1) A7 n7 c7
   clear q_q q_u q_v q_o q_s q_t
   generalize (v39.setCell ⟨g1, 0, none⟩ (.bool (ngB U1))).setCell ⟨g1, 1, none⟩ (.slice A7 n7 c7) = v40 at *
   have q_q := x_q.al
   have q_u := x_u.al
   have q_v := x_v.al
   have q_o := x_o.al
   have q_s := x_s.al
   have q_t := x_t.al
   with_reducible refine (Rup_any z_v.zr z_q.zr 1 (2 * (Q : Int)) (by omega) (by omega) (by omega)).mono ?_
   rintro e v41 ⟨A8, n8, c8, rfl, z8, hb1⟩
   obtain ⟨x_a, x_r, x_p, x_q, x_u, x_v, x_o, x_s, x_t⟩ := mv9 hb1 x_a x_r x_p x_q x_u x_v x_o x_s x_t
   obtain ⟨z_q, z_u, z_v, z_s, z_t, z_o, z_N33, z_N37, z7⟩ := mv9 hb1 z_q z_u z_v z_s z_t z_o z_N33 z_N37 z7
   replace hb := bthen hb hb1
   clear hb1
   replace q_q := x_q.al
   replace q_u := x_u.al
   replace q_v := x_v.al
   replace q_o := x_o.al
   replace q_s := x_s.al
   replace q_t := x_t.al
   rw [HV1.out] at z8 ⊢
   replace z8 := z8.slim B2.out
   go_wp2_with fail
   replace x_a := x_a.aside (b' := (ngB V1)) (A' := A8) (n' := n8) (c' := c8) (g := g2) (by omega)
   replace x_r := x_r.aside (b' := (ngB V1)) (A' := A8) (n' := n8) (c' := c8) (g := g2) (by omega)
   replace x_p := x_p.aside (b' := (ngB V1)) (A' := A8) (n' := n8) (c' := c8) (g := g2) (by omega)
   replace x_q := x_q.aside (b' := (ngB V1)) (A' := A8) (n' := n8) (c' := c8) (g := g2) (by omega)
   replace x_u := x_u.aside (b' := (ngB V1)) (A' := A8) (n' := n8) (c' := c8) (g := g2) (by omega)
   replace x_o := x_o.aside (b' := (ngB V1)) (A' := A8) (n' := n8) (c' := c8) (g := g2) (by omega)
   replace x_s := x_s.aside (b' := (ngB V1)) (A' := A8) (n' := n8) (c' := c8) (g := g2) (by omega)
   replace x_t := x_t.aside (b' := (ngB V1)) (A' := A8) (n' := n8) (c' := c8) (g := g2) (by omega)
   replace z_q := z_q.put (b' := (ngB V1)) (A' := A8) (n' := n8) (c' := c8) x_v
   replace z_u := z_u.put (b' := (ngB V1)) (A' := A8) (n' := n8) (c' := c8) x_v
   replace z_v := z_v.put (b' := (ngB V1)) (A' := A8) (n' := n8) (c' := c8) x_v
   replace z_s := z_s.put (b' := (ngB V1)) (A' := A8) (n' := n8) (c' := c8) x_v
   replace z_t := z_t.put (b' := (ngB V1)) (A' := A8) (n' := n8) (c' := c8) x_v
   replace z_o := z_o.put (b' := (ngB V1)) (A' := A8) (n' := n8) (c' := c8) x_v
   replace z_N33 := z_N33.put (b' := (ngB V1)) (A' := A8) (n' := n8) (c' := c8) x_v
   replace z_N37 := z_N37.put (b' := (ngB V1)) (A' := A8) (n' := n8) (c' := c8) x_v
   replace z7 := z7.put (b' := (ngB V1)) (A' := A8) (n' := n8) (c' := c8) x_v
   replace z8 := z8.put (b' := (ngB V1)) (A' := A8) (n' := n8) (c' := c8) x_v
   replace hb := put_below (g := g2) hb (by omega) (.bool (ngB V1)) (.slice A8 n8 c8)
   replace x_v := x_v.put (ngB V1) A8 n8 c8
   clear q_q q_u q_v q_o q_s q_t
   generalize (v41.setCell ⟨g2, 0, none⟩ (.bool (ngB V1))).setCell ⟨g2, 1, none⟩ (.slice A8 n8 c8) = v42 at *
   have q_q := x_q.al
   have q_u := x_u.al
   have q_v := x_v.al
   have q_o := x_o.al
   have q_s := x_s.al
   have q_t := x_t.al
   go_roundw
   case rel => exact ⟨k + 1, by omega, by go_num, hb, x_a, x_r, x_p, ⟨_, _, _, x_q, z_q⟩, ⟨_, _, _, by rw [EU1.out]; exact x_u, by rw [EU1.out]; exact z7⟩, ⟨_, _, _, by rw [EV1.out]; exact x_v, by rw [EV1.out]; exact z8⟩, ⟨_, _, _, by rw [ES1.out]; exact x_s, by rw [ES1.out]; exact z_N33⟩, ⟨_, _, _, by rw [ET1.out]; exact x_t, by rw [ET1.out]; exact z_N37⟩, ⟨_, _, _, x_o, z_o⟩⟩
   case measure => simp [intOf]; omega

end Go.Proofs.YtiikmjnnlckiiaaGreat
