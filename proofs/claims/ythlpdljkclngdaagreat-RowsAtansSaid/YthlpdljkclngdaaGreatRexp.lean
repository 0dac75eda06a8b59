/-
  the document's answers for rows: Exp.
-/
import Derived.Test.YthlpdljkclngdaaGreatRmay
import Derived.Test.YthlpdljkclngdaaGreatRans
import Derived.Test.YthlpdljkclngdaaGreatRwm
namespace Go.Proofs.YthlpdljkclngdaaGreat
open Go.RowKit
set_option linter.unusedVariables false

theorem may_yes {X : Int} {Q M : Nat} {d e : Int} (hQ : Q ≤ 1200) (hM : 1 ≤ M ∧ M ≤ 400) (h0 : 0 ≤ X) (h : X * 2 ^ sc e ≤ d * twP Q) : mayB X Q M d e = true := by
  unfold mayB
  have hs : sc (Q : Int) = Q := by rw [sc_nat (by omega) (by omega)]; simp
  rw [hs]
  unfold twP at h
  simp
  omega
theorem Zn.nl (w : World) (k : Nat) : Zn w none 0 0 0 k := ⟨by show Rd w w.heap.size none 0 0 (dg Wd 0); rw [dg_zero]; exact Rd.nil, Nat.zero_le _⟩
theorem sc_zero : sc 0 = 0 := rfl
theorem sc_one : sc 1 = 1 := rfl

/-- What the loop keeps. -/
def ExRel (w : World) (b : Bool) (A : Option Addr) (n c : Nat) (g1 g2 g3 g4 : Nat) (U V S T : Int) (wr : World) : Prop :=
  Below w.heap.size w wr ∧ Bx wr w.heap.size b A n c ∧ Bx wr (w.heap.size + 1) false none 0 0 ∧ Bx wr (w.heap.size + 1 + 1) false none 0 0 ∧ Bn wr g1 U 20 ∧ Bn wr g2 V 20 ∧ Bn wr g3 S 20 ∧ Bn wr g4 T 20
set_option maxRecDepth 100000 in
set_option maxHeartbeats 16000000 in
theorem RExp_yes {b : Bool} {A : Option Addr} {n c : Nat} {X : Int} {j : Nat} {w : World} (h : Zr w b A n c X j) (Q M : Nat) (hQ : Q ≤ 1200) (hM : 1 ≤ M ∧ M ≤ 400) (hX : 0 ≤ X ∧ X ≤ twP Q) (hj : j ≤ 20) :
    Calls Tryz.prog 10 #[.agg #[.bool b, .slice A n c], .int .i64 (Q : Nat), .int .i64 (M : Nat)] w (Ou2 w (rwLo 0 X Q M) (rwHi 0 X Q M) 0 25) := by
  have HMY := Lib.hid (may_yes (d := 1) (e := 0) hQ hM hX.1 (by rw [sc_zero]; simpa using hX.2))
  have H1 := Lib.hid h
  have hs : sc (Q : Int) = Q := by rw [sc_nat (by omega) (by omega)]; simp
  have HP : Hid (1 * 2 ^ sc (Q : Int) = twP Q) := Lib.hid (by rw [hs]; unfold twP; simp)
  clear hs
  have hbd := ex_bd hX.1 hX.2
  have hsb := sum_bd (fun k => (hbd k).1) (fun k => Int.le_trans (hbd k).2.1 (hbd k).2.2)
  have hsb2 := sum_bd (fun k => Int.le_trans (hbd k).1 (hbd k).2.1) (fun k => (hbd k).2.2)
  have BU : Hid (∀ k, Si (exU X Q k) 20) := Lib.hid fun k => si_tw (K := 1) (by omega) hQ (by have := hbd k; omega) (by have := hbd k; have := tw_pos Q; omega)
  have BV : Hid (∀ k, Si (exV X Q k) 20) := Lib.hid fun k => si_tw (K := 1) (by omega) hQ (by have := hbd k; omega) (by have := hbd k; have := tw_pos Q; omega)
  have BS : Hid (∀ k, k ≤ 400 → Si (sumI (exU X Q) k) 20) := Lib.hid fun k hk => si_tw (K := k) (by omega) hQ (hsb k).2 (by have := (hsb k).1; have := Int.mul_nonneg (show (0 : Int) ≤ k by omega) (Int.le_of_lt (tw_pos Q)); omega)
  have BT : Hid (∀ k, k ≤ 400 → Si (sumI (exV X Q) k) 20) := Lib.hid fun k hk => si_tw (K := k) (by omega) hQ (hsb2 k).2 (by have := (hsb2 k).1; have := Int.mul_nonneg (show (0 : Int) ≤ k by omega) (Int.le_of_lt (tw_pos Q)); omega)
  have H0 : Hid (exU X Q 0 = twP Q ∧ exV X Q 0 = twP Q) := Lib.hid ⟨rfl, rfl⟩
  clear hbd hsb hsb2 hX
  obtain ⟨P, hP⟩ : ∃ P, twP Q = P := ⟨_, rfl⟩
  rw [hP] at HP H0
  have BP : Hid (Si P 20) := Lib.hid (by have := BU.out 0; rw [H0.out.1] at this; exact this)
  have HPP := Lib.hid hP; clear hP
  go_enter Tryz.func10, Tryz.ntmps10
  go_wp2_with fail
  have x_a : Bx (w.alloc (.cells #[.bool b, .slice A n c] 24)) (w.heap.size) b A n c := by have := Bx.new w b A n c; simpa using this
  replace x_a := x_a.alloc (.cells #[.bool false, .slice none 0 0] 24)
  have x_r : Bx ((w.alloc (.cells #[.bool b, .slice A n c] 24)).alloc (.cells #[.bool false, .slice none 0 0] 24)) (w.heap.size + 1) false none 0 0 := by have := Bx.new (w.alloc (.cells #[.bool b, .slice A n c] 24)) false none 0 0; simpa using this
  replace x_a := x_a.alloc (.cells #[.bool false, .slice none 0 0] 24)
  replace x_r := x_r.alloc (.cells #[.bool false, .slice none 0 0] 24)
  have x_p : Bx (((w.alloc (.cells #[.bool b, .slice A n c] 24)).alloc (.cells #[.bool false, .slice none 0 0] 24)).alloc (.cells #[.bool false, .slice none 0 0] 24)) (w.heap.size + 1 + 1) false none 0 0 := by have := Bx.new ((w.alloc (.cells #[.bool b, .slice A n c] 24)).alloc (.cells #[.bool false, .slice none 0 0] 24)) false none 0 0; simpa using this
  have hb : Below w.heap.size w (((w.alloc (.cells #[.bool b, .slice A n c] 24)).alloc (.cells #[.bool false, .slice none 0 0] 24)).alloc (.cells #[.bool false, .slice none 0 0] 24)) := (Below.alloc (Below.alloc (Below.alloc (Below.refl w.heap.size w) (by simp) (.cells #[.bool b, .slice A n c] 24)) (by simp) (.cells #[.bool false, .slice none 0 0] 24)) (by simp; omega) (.cells #[.bool false, .slice none 0 0] 24))
  generalize ((w.alloc (.cells #[.bool b, .slice A n c] 24)).alloc (.cells #[.bool false, .slice none 0 0] 24)).alloc (.cells #[.bool false, .slice none 0 0] 24) = v1 at *
  replace h := h.keep hb
  obtain ⟨q_a0, f_a0, q_a1, f_a1⟩ := x_a.al
  obtain ⟨q_r0, f_r0, q_r1, f_r1⟩ := x_r.al
  obtain ⟨q_p0, f_p0, q_p1, f_p1⟩ := x_p.al
  go_wp2_with fail
  with_reducible refine (Rmay_any h Q M 1 0 (by omega) (by omega)).mono ?_
  rintro e v2 ⟨rfl, hb1⟩
  replace x_a := x_a.keep hb1
  replace x_r := x_r.keep hb1
  replace x_p := x_p.keep hb1
  replace h := h.keep hb1
  replace hb := bthen hb hb1
  clear hb1
  clear q_a0 f_a0 q_a1 f_a1; obtain ⟨q_a0, f_a0, q_a1, f_a1⟩ := x_a.al
  clear q_r0 f_r0 q_r1 f_r1; obtain ⟨q_r0, f_r0, q_r1, f_r1⟩ := x_r.al
  clear q_p0 f_p0 q_p1 f_p1; obtain ⟨q_p0, f_p0, q_p1, f_p1⟩ := x_p.al
  rw [HMY.out]
  clear q_r0 f_r0 q_r1 f_r1
  clear q_p0 f_p0 q_p1 f_p1
  go_wp2_with fail
  with_reducible refine (ROf_any 1 (by omega) (by omega)).mono ?_
  rintro e v3 ⟨A9, n9, c9, rfl, z9, hb1⟩
  replace x_a := x_a.keep hb1
  replace x_r := x_r.keep hb1
  replace x_p := x_p.keep hb1
  replace h := h.keep hb1
  replace hb := bthen hb hb1
  clear hb1
  clear q_a0 f_a0 q_a1 f_a1; obtain ⟨q_a0, f_a0, q_a1, f_a1⟩ := x_a.al
  go_wp2_with fail
  with_reducible refine (RShlZ_any z9.zr Q 130 (by omega) (by omega)).mono ?_
  rintro e v4 ⟨A8, n8, c8, rfl, z8, hb1⟩
  replace x_a := x_a.keep hb1
  replace x_r := x_r.keep hb1
  replace x_p := x_p.keep hb1
  replace h := h.keep hb1
  replace z9 := z9.keep hb1
  replace hb := bthen hb hb1
  clear hb1
  clear q_a0 f_a0 q_a1 f_a1; obtain ⟨q_a0, f_a0, q_a1, f_a1⟩ := x_a.al
  rw [HP.out] at z8 ⊢
  replace z8 := z8.slim BP.out
  clear z9
  go_upto_region 5 with fail
  have hb1 := below_alloc v4 (.cells #[.bool (ngB P), .slice A8 n8 c8] 24)
  have l_a_u := x_a.lt
  have l_r_u := x_r.lt
  have l_p_u := x_p.lt
  have x_u := Bx.new v4 (ngB P) A8 n8 c8
  have e_u : w.heap.size ≤ v4.heap.size := hb.size
  clear q_a0 f_a0 q_a1 f_a1
  replace x_a := x_a.keep hb1
  replace x_r := x_r.keep hb1
  replace x_p := x_p.keep hb1
  replace h := h.keep hb1
  replace z8 := z8.keep hb1
  replace hb := bthen hb hb1
  clear hb1
  generalize v4.alloc (.cells #[.bool (ngB P), .slice A8 n8 c8] 24) = v5 at *
  obtain ⟨q_a0, f_a0, q_a1, f_a1⟩ := x_a.al
  obtain ⟨q_u0, f_u0, q_u1, f_u1⟩ := x_u.al
  go_upto_region 6 with fail
  have hb1 := below_alloc v5 (.cells #[.bool (ngB P), .slice A8 n8 c8] 24)
  have l_a_v := x_a.lt
  have l_r_v := x_r.lt
  have l_p_v := x_p.lt
  have l_u_v := x_u.lt
  have x_v := Bx.new v5 (ngB P) A8 n8 c8
  have e_v : w.heap.size ≤ v5.heap.size := hb.size
  clear q_a0 f_a0 q_a1 f_a1 q_u0 f_u0 q_u1 f_u1
  replace x_a := x_a.keep hb1
  replace x_r := x_r.keep hb1
  replace x_p := x_p.keep hb1
  replace x_u := x_u.keep hb1
  replace h := h.keep hb1
  replace z8 := z8.keep hb1
  replace hb := bthen hb hb1
  clear hb1
  generalize v5.alloc (.cells #[.bool (ngB P), .slice A8 n8 c8] 24) = v6 at *
  obtain ⟨q_a0, f_a0, q_a1, f_a1⟩ := x_a.al
  obtain ⟨q_u0, f_u0, q_u1, f_u1⟩ := x_u.al
  obtain ⟨q_v0, f_v0, q_v1, f_v1⟩ := x_v.al
  go_upto_region 7 with fail
  have hb1 := below_alloc v6 (.cells #[.bool false, .slice none 0 0] 24)
  have l_a_s := x_a.lt
  have l_r_s := x_r.lt
  have l_p_s := x_p.lt
  have l_u_s := x_u.lt
  have l_v_s := x_v.lt
  have x_s := Bx.new v6 false none 0 0
  have e_s : w.heap.size ≤ v6.heap.size := hb.size
  clear q_a0 f_a0 q_a1 f_a1 q_u0 f_u0 q_u1 f_u1 q_v0 f_v0 q_v1 f_v1
  replace x_a := x_a.keep hb1
  replace x_r := x_r.keep hb1
  replace x_p := x_p.keep hb1
  replace x_u := x_u.keep hb1
  replace x_v := x_v.keep hb1
  replace h := h.keep hb1
  replace z8 := z8.keep hb1
  replace hb := bthen hb hb1
  clear hb1
  generalize v6.alloc (.cells #[.bool false, .slice none 0 0] 24) = v7 at *
  obtain ⟨q_a0, f_a0, q_a1, f_a1⟩ := x_a.al
  obtain ⟨q_u0, f_u0, q_u1, f_u1⟩ := x_u.al
  obtain ⟨q_v0, f_v0, q_v1, f_v1⟩ := x_v.al
  obtain ⟨q_s0, f_s0, q_s1, f_s1⟩ := x_s.al
  go_upto_region 8 with fail
  have hb1 := below_alloc v7 (.cells #[.bool false, .slice none 0 0] 24)
  have l_a_t := x_a.lt
  have l_r_t := x_r.lt
  have l_p_t := x_p.lt
  have l_u_t := x_u.lt
  have l_v_t := x_v.lt
  have l_s_t := x_s.lt
  have x_t := Bx.new v7 false none 0 0
  have e_t : w.heap.size ≤ v7.heap.size := hb.size
  clear q_a0 f_a0 q_a1 f_a1 q_u0 f_u0 q_u1 f_u1 q_v0 f_v0 q_v1 f_v1 q_s0 f_s0 q_s1 f_s1
  replace x_a := x_a.keep hb1
  replace x_r := x_r.keep hb1
  replace x_p := x_p.keep hb1
  replace x_u := x_u.keep hb1
  replace x_v := x_v.keep hb1
  replace x_s := x_s.keep hb1
  replace h := h.keep hb1
  replace z8 := z8.keep hb1
  replace hb := bthen hb hb1
  clear hb1
  generalize v7.alloc (.cells #[.bool false, .slice none 0 0] 24) = v8 at *
  obtain ⟨q_a0, f_a0, q_a1, f_a1⟩ := x_a.al
  obtain ⟨q_u0, f_u0, q_u1, f_u1⟩ := x_u.al
  obtain ⟨q_v0, f_v0, q_v1, f_v1⟩ := x_v.al
  obtain ⟨q_s0, f_s0, q_s1, f_s1⟩ := x_s.al
  obtain ⟨q_t0, f_t0, q_t1, f_t1⟩ := x_t.al
  go_wp2_with fail
  have hrel0 : ExRel w b A n c (v4.heap.size) (v5.heap.size) (v6.heap.size) (v7.heap.size) (exU X Q 0) (exV X Q 0) (sumI (exU X Q) 0) (sumI (exV X Q) 0) v8 := ⟨hb, x_a, x_r, x_p, ⟨_, _, _, by rw [H0.out.1]; exact x_u, by rw [H0.out.1]; exact z8⟩, ⟨_, _, _, by rw [H0.out.2]; exact x_v, by rw [H0.out.2]; exact z8⟩, ⟨_, _, _, x_s, Zn.nl _ _⟩, ⟨_, _, _, x_t, Zn.nl _ _⟩⟩
  clear q_a0 f_a0 q_a1 f_a1 q_u0 f_u0 q_u1 f_u1 q_v0 f_v0 q_v1 f_v1 q_s0 f_s0 q_s1 f_s1 q_t0 f_t0 q_t1 f_t1
  obtain ⟨g1, hg1⟩ : ∃ g, v4.heap.size = g := ⟨_, rfl⟩; obtain ⟨g2, hg2⟩ : ∃ g, v5.heap.size = g := ⟨_, rfl⟩; obtain ⟨g3, hg3⟩ : ∃ g, v6.heap.size = g := ⟨_, rfl⟩; obtain ⟨g4, hg4⟩ : ∃ g, v7.heap.size = g := ⟨_, rfl⟩
  have hgs : w.heap.size + 2 < g1 ∧ g1 < g2 ∧ g2 < g3 ∧ g3 < g4 := by have := x_a.lt; omega
  rw [hg1, hg2, hg3, hg4] at hrel0
  simp only [hg1, hg2, hg3, hg4]
  clear hb x_a x_r x_p x_u x_v x_s x_t z8 h hg1 hg2 hg3 hg4
  go_loopw [14] (fun kv wr => ∃ k : Nat, k ≤ M ∧ kv = .int .i64 ((k : Int) + 1) ∧ ExRel w b A n c g1 g2 g3 g4 (exU X Q k) (exV X Q k) (sumI (exU X Q) k) (sumI (exV X Q) k) wr) (fun kv _ => M + 2 - (intOf kv).toNat)
  case atStart => exact ⟨0, by omega, rfl, hrel0⟩
  case round =>
    clear hrel0
    obtain ⟨k, hk, rfl, hb, x_a, x_r, x_p, ⟨Au, nu, cu, x_u, z_u⟩, ⟨Av, nv, cv, x_v, z_v⟩, ⟨As, ns, cs, x_s, z_s⟩, ⟨At, nt, ct, x_t, z_t⟩⟩ := hrel
    have h := H1.out.keep hb
    obtain ⟨U, hU⟩ : ∃ e, exU X Q k = e := ⟨_, rfl⟩
    obtain ⟨V, hV⟩ : ∃ e, exV X Q k = e := ⟨_, rfl⟩
    obtain ⟨S, hS⟩ : ∃ e, sumI (exU X Q) k = e := ⟨_, rfl⟩
    obtain ⟨T, hT⟩ : ∃ e, sumI (exV X Q) k = e := ⟨_, rfl⟩
    rw [hU] at x_u z_u; rw [hV] at x_v z_v; rw [hS] at x_s z_s; rw [hT] at x_t z_t
    rcases (show k = M ∨ k < M by omega) with hk2 | hk2
    · have HS : Hid (rwLo 0 X Q M = S) := Lib.hid (by rw [← hk2]; exact hS)
      have HH : Hid (T + (V + V) = rwHi 0 X Q M) := Lib.hid (by rw [← hT, ← hV, hk2]; show _ = sumI (exV X Q) M + 2 * exV X Q M; omega)
      clear hU hV hS hT
      obtain ⟨H, hH⟩ : ∃ H, rwHi 0 X Q M = H := ⟨_, rfl⟩
      rw [hH] at HH
      have HHI := Lib.hid hH; clear hH
      subst hk2
      obtain ⟨q_r0, f_r0, q_r1, f_r1⟩ := x_r.al
      obtain ⟨q_p0, f_p0, q_p1, f_p1⟩ := x_p.al
      obtain ⟨q_v0, f_v0, q_v1, f_v1⟩ := x_v.al
      obtain ⟨q_s0, f_s0, q_s1, f_s1⟩ := x_s.al
      obtain ⟨q_t0, f_t0, q_t1, f_t1⟩ := x_t.al
      go_wp2_with fail
      go_region_held3 (fun w' => w'.cell? ⟨g3, 0, none⟩ = some (.bool (ngB S)) ∧ w'.cell? ⟨g3, 1, none⟩ = some (.slice As ns cs) ∧ w'.cell? ⟨g4, 0, none⟩ = some (.bool (ngB T)) ∧ w'.cell? ⟨g4, 1, none⟩ = some (.slice At nt ct) ∧ w'.cell? ⟨g2, 0, none⟩ = some (.bool (ngB V)) ∧ w'.cell? ⟨g2, 1, none⟩ = some (.slice Av nv cv))
        (first | (with_reducible exact ⟨x_s.c0, x_s.c1, x_t.c0, x_t.c1, x_v.c0, x_v.c1⟩) | (with_reducible exact ⟨(x_s.aside (by omega)).c0, (x_s.aside (by omega)).c1, (x_t.aside (by omega)).c0, (x_t.aside (by omega)).c1, (x_v.aside (by omega)).c0, (x_v.aside (by omega)).c1⟩) | (with_reducible exact ⟨((x_s.aside (by omega)).aside (by omega)).c0, ((x_s.aside (by omega)).aside (by omega)).c1, ((x_t.aside (by omega)).aside (by omega)).c0, ((x_t.aside (by omega)).aside (by omega)).c1, ((x_v.aside (by omega)).aside (by omega)).c0, ((x_v.aside (by omega)).aside (by omega)).c1⟩) | (with_reducible exact ⟨(x_s.asideD (by omega)).c0, (x_s.asideD (by omega)).c1, (x_t.asideD (by omega)).c0, (x_t.asideD (by omega)).c1, (x_v.asideD (by omega)).c0, (x_v.asideD (by omega)).c1⟩) | (with_reducible exact ⟨((x_s.asideD (by omega)).asideD (by omega)).c0, ((x_s.asideD (by omega)).asideD (by omega)).c1, ((x_t.asideD (by omega)).asideD (by omega)).c0, ((x_t.asideD (by omega)).asideD (by omega)).c1, ((x_v.asideD (by omega)).asideD (by omega)).c0, ((x_v.asideD (by omega)).asideD (by omega)).c1⟩) | (with_reducible exact ⟨(x_s.asideL (by omega)).c0, (x_s.asideL (by omega)).c1, (x_t.asideL (by omega)).c0, (x_t.asideL (by omega)).c1, (x_v.asideL (by omega)).c0, (x_v.asideL (by omega)).c1⟩) | (with_reducible exact ⟨((x_s.asideL (by omega)).asideL (by omega)).c0, ((x_s.asideL (by omega)).asideL (by omega)).c1, ((x_t.asideL (by omega)).asideL (by omega)).c0, ((x_t.asideL (by omega)).asideL (by omega)).c1, ((x_v.asideL (by omega)).asideL (by omega)).c0, ((x_v.asideL (by omega)).asideL (by omega)).c1⟩) | go_keep)
        (first | (go_at_call 32; (with_reducible refine (RAddZ_any z_v.drw.zr z_v.drw.zr 21 (by omega) (by omega) (by omega)).mono ?_); rintro e v31 ⟨A5, n5, c5, rfl, z5, hb1⟩; replace hb1 := undrew hb1; replace x_a := x_a.keep hb1; replace x_r := x_r.keep hb1; replace x_p := x_p.keep hb1; replace x_u := x_u.keep hb1; replace x_v := x_v.keep hb1; replace x_s := x_s.keep hb1; replace x_t := x_t.keep hb1; replace h := h.keep hb1; replace z_u := z_u.keep hb1; replace z_v := z_v.keep hb1; replace z_s := z_s.keep hb1; replace z_t := z_t.keep hb1; replace hb := bthen hb hb1; clear hb1; clear q_r0 f_r0 q_r1 f_r1; obtain ⟨q_r0, f_r0, q_r1, f_r1⟩ := x_r.al; clear q_p0 f_p0 q_p1 f_p1; obtain ⟨q_p0, f_p0, q_p1, f_p1⟩ := x_p.al; clear q_v0 f_v0 q_v1 f_v1; obtain ⟨q_v0, f_v0, q_v1, f_v1⟩ := x_v.al; clear q_s0 f_s0 q_s1 f_s1; obtain ⟨q_s0, f_s0, q_s1, f_s1⟩ := x_s.al; clear q_t0 f_t0 q_t1 f_t1; obtain ⟨q_t0, f_t0, q_t1, f_t1⟩ := x_t.al) | (go_at_call 32; (with_reducible refine (RAddZ_any z_t.zr z5.zr 22 (by omega) (by omega) (by omega)).mono ?_); rintro e v32 ⟨A6, n6, c6, rfl, z6, hb1⟩; replace x_a := x_a.keep hb1; replace x_r := x_r.keep hb1; replace x_p := x_p.keep hb1; replace x_u := x_u.keep hb1; replace x_v := x_v.keep hb1; replace x_s := x_s.keep hb1; replace x_t := x_t.keep hb1; replace h := h.keep hb1; replace z_u := z_u.keep hb1; replace z_v := z_v.keep hb1; replace z_s := z_s.keep hb1; replace z_t := z_t.keep hb1; replace z5 := z5.keep hb1; replace hb := bthen hb hb1; clear hb1; clear q_r0 f_r0 q_r1 f_r1; obtain ⟨q_r0, f_r0, q_r1, f_r1⟩ := x_r.al; clear q_p0 f_p0 q_p1 f_p1; obtain ⟨q_p0, f_p0, q_p1, f_p1⟩ := x_p.al; clear q_v0 f_v0 q_v1 f_v1; obtain ⟨q_v0, f_v0, q_v1, f_v1⟩ := x_v.al; clear q_s0 f_s0 q_s1 f_s1; obtain ⟨q_s0, f_s0, q_s1, f_s1⟩ := x_s.al; clear q_t0 f_t0 q_t1 f_t1; obtain ⟨q_t0, f_t0, q_t1, f_t1⟩ := x_t.al; rw [HH.out] at z6 ⊢))
      replace z_s := z_s.wide (show 20 ≤ 25 by omega)
      replace z6 := z6.wide (show 22 ≤ 25 by omega)
      go_wp2
      replace x_a := x_a.aside (b' := (ngB S)) (A' := As) (n' := ns) (c' := cs) (g := w.heap.size + 1) (by omega)
      replace x_p := x_p.aside (b' := (ngB S)) (A' := As) (n' := ns) (c' := cs) (g := w.heap.size + 1) (by omega)
      replace x_u := x_u.aside (b' := (ngB S)) (A' := As) (n' := ns) (c' := cs) (g := w.heap.size + 1) (by omega)
      replace x_v := x_v.aside (b' := (ngB S)) (A' := As) (n' := ns) (c' := cs) (g := w.heap.size + 1) (by omega)
      replace x_s := x_s.aside (b' := (ngB S)) (A' := As) (n' := ns) (c' := cs) (g := w.heap.size + 1) (by omega)
      replace x_t := x_t.aside (b' := (ngB S)) (A' := As) (n' := ns) (c' := cs) (g := w.heap.size + 1) (by omega)
      replace h := h.put (b' := (ngB S)) (A' := As) (n' := ns) (c' := cs) x_r
      replace z_u := z_u.put (b' := (ngB S)) (A' := As) (n' := ns) (c' := cs) x_r
      replace z_v := z_v.put (b' := (ngB S)) (A' := As) (n' := ns) (c' := cs) x_r
      replace z_s := z_s.put (b' := (ngB S)) (A' := As) (n' := ns) (c' := cs) x_r
      replace z_t := z_t.put (b' := (ngB S)) (A' := As) (n' := ns) (c' := cs) x_r
      replace z5 := z5.put (b' := (ngB S)) (A' := As) (n' := ns) (c' := cs) x_r
      replace z6 := z6.put (b' := (ngB S)) (A' := As) (n' := ns) (c' := cs) x_r
      replace hb := put_below (g := w.heap.size + 1) hb (by omega) (.bool (ngB S)) (.slice As ns cs)
      replace x_r := x_r.put (ngB S) As ns cs
      clear q_r0 f_r0 q_r1 f_r1 q_p0 f_p0 q_p1 f_p1 q_v0 f_v0 q_v1 f_v1 q_s0 f_s0 q_s1 f_s1 q_t0 f_t0 q_t1 f_t1
      generalize (v32.setCell ⟨w.heap.size + 1, 0, none⟩ (.bool (ngB S))).setCell ⟨w.heap.size + 1, 1, none⟩ (.slice As ns cs) = v33 at *
      obtain ⟨q_r0, f_r0, q_r1, f_r1⟩ := x_r.al
      obtain ⟨q_p0, f_p0, q_p1, f_p1⟩ := x_p.al
      obtain ⟨q_v0, f_v0, q_v1, f_v1⟩ := x_v.al
      obtain ⟨q_s0, f_s0, q_s1, f_s1⟩ := x_s.al
      obtain ⟨q_t0, f_t0, q_t1, f_t1⟩ := x_t.al
      replace x_a := x_a.aside (b' := (ngB H)) (A' := A6) (n' := n6) (c' := c6) (g := w.heap.size + 1 + 1) (by omega)
      replace x_r := x_r.aside (b' := (ngB H)) (A' := A6) (n' := n6) (c' := c6) (g := w.heap.size + 1 + 1) (by omega)
      replace x_u := x_u.aside (b' := (ngB H)) (A' := A6) (n' := n6) (c' := c6) (g := w.heap.size + 1 + 1) (by omega)
      replace x_v := x_v.aside (b' := (ngB H)) (A' := A6) (n' := n6) (c' := c6) (g := w.heap.size + 1 + 1) (by omega)
      replace x_s := x_s.aside (b' := (ngB H)) (A' := A6) (n' := n6) (c' := c6) (g := w.heap.size + 1 + 1) (by omega)
      replace x_t := x_t.aside (b' := (ngB H)) (A' := A6) (n' := n6) (c' := c6) (g := w.heap.size + 1 + 1) (by omega)
      replace h := h.put (b' := (ngB H)) (A' := A6) (n' := n6) (c' := c6) x_p
      replace z_u := z_u.put (b' := (ngB H)) (A' := A6) (n' := n6) (c' := c6) x_p
      replace z_v := z_v.put (b' := (ngB H)) (A' := A6) (n' := n6) (c' := c6) x_p
      replace z_s := z_s.put (b' := (ngB H)) (A' := A6) (n' := n6) (c' := c6) x_p
      replace z_t := z_t.put (b' := (ngB H)) (A' := A6) (n' := n6) (c' := c6) x_p
      replace z5 := z5.put (b' := (ngB H)) (A' := A6) (n' := n6) (c' := c6) x_p
      replace z6 := z6.put (b' := (ngB H)) (A' := A6) (n' := n6) (c' := c6) x_p
      replace hb := put_below (g := w.heap.size + 1 + 1) hb (by omega) (.bool (ngB H)) (.slice A6 n6 c6)
      replace x_p := x_p.put (ngB H) A6 n6 c6
      clear q_r0 f_r0 q_r1 f_r1 q_p0 f_p0 q_p1 f_p1 q_v0 f_v0 q_v1 f_v1 q_s0 f_s0 q_s1 f_s1 q_t0 f_t0 q_t1 f_t1
      generalize (v33.setCell ⟨w.heap.size + 1 + 1, 0, none⟩ (.bool (ngB H))).setCell ⟨w.heap.size + 1 + 1, 1, none⟩ (.slice A6 n6 c6) = v34 at *
      obtain ⟨q_r0, f_r0, q_r1, f_r1⟩ := x_r.al
      obtain ⟨q_p0, f_p0, q_p1, f_p1⟩ := x_p.al
      obtain ⟨q_v0, f_v0, q_v1, f_v1⟩ := x_v.al
      obtain ⟨q_s0, f_s0, q_s1, f_s1⟩ := x_s.al
      obtain ⟨q_t0, f_t0, q_t1, f_t1⟩ := x_t.al
      refine bodyPost_ret (v := .tuple #[.agg #[.bool (ngB S), .slice As ns cs], .agg #[.bool (ngB H), .slice A6 n6 c6], .int .i64 0]) (by simp [results, Tryz.results10, go_sem, q_r0, q_r1, q_p0, q_p1]) rfl ?_
      exact Ou2.mk HS.out HHI.out z_s z6 hb
    · have hn : ((Q : Int)).toNat = Q := by simp
      obtain ⟨U1, hU1⟩ : ∃ e, exU X Q (k + 1) = e := ⟨_, rfl⟩
      have HU1 : Hid (U * X / 2 ^ ((Q : Int)).toNat / ((k : Int) + 1) = U1) := Lib.hid (by rw [hn, ← hU]; exact (ex_dn X Q k).trans hU1)
      have EU1 := Lib.hid hU1
      obtain ⟨V1, hV1⟩ : ∃ e, exV X Q (k + 1) = e := ⟨_, rfl⟩
      have HV1 : Hid (-(-(-(-(V * X) / 2 ^ ((Q : Int)).toNat)) / ((k : Int) + 1)) = V1) := Lib.hid (by rw [hn, ← hV]; exact (ex_up X Q k).trans hV1)
      have EV1 := Lib.hid hV1
      obtain ⟨S1, hS1⟩ : ∃ e, sumI (exU X Q) (k + 1) = e := ⟨_, rfl⟩
      have HS1 : Hid (S + U = S1) := Lib.hid (by rw [← hS, ← hU]; exact hS1)
      have ES1 := Lib.hid hS1
      obtain ⟨T1, hT1⟩ : ∃ e, sumI (exV X Q) (k + 1) = e := ⟨_, rfl⟩
      have HT1 : Hid (T + V = T1) := Lib.hid (by rw [← hT, ← hV]; exact hT1)
      have ET1 := Lib.hid hT1
      have B1 : Hid (Si U1 20) := Lib.hid (by rw [← hU1]; exact BU.out _); have B2 : Hid (Si V1 20) := Lib.hid (by rw [← hV1]; exact BV.out _); have B3 : Hid (Si S1 20) := Lib.hid (by rw [← hS1]; exact BS.out _ (by omega)); have B4 : Hid (Si T1 20) := Lib.hid (by rw [← hT1]; exact BT.out _ (by omega))
      clear hU hV hS hT hU1 hV1 hS1 hT1 hn
      obtain ⟨q_a0, f_a0, q_a1, f_a1⟩ := x_a.al
      obtain ⟨q_u0, f_u0, q_u1, f_u1⟩ := x_u.al
      obtain ⟨q_v0, f_v0, q_v1, f_v1⟩ := x_v.al
      obtain ⟨q_s0, f_s0, q_s1, f_s1⟩ := x_s.al
      obtain ⟨q_t0, f_t0, q_t1, f_t1⟩ := x_t.al
      go_wp2_with fail
      with_reducible refine (RAddZ_any z_s.zr z_u.zr 21 (by omega) (by omega) (by omega)).mono ?_
      rintro e v31 ⟨A5, n5, c5, rfl, z5, hb1⟩
      replace x_a := x_a.keep hb1
      replace x_r := x_r.keep hb1
      replace x_p := x_p.keep hb1
      replace x_u := x_u.keep hb1
      replace x_v := x_v.keep hb1
      replace x_s := x_s.keep hb1
      replace x_t := x_t.keep hb1
      replace h := h.keep hb1
      replace z_u := z_u.keep hb1
      replace z_v := z_v.keep hb1
      replace z_s := z_s.keep hb1
      replace z_t := z_t.keep hb1
      replace hb := bthen hb hb1
      clear hb1
      clear q_a0 f_a0 q_a1 f_a1; obtain ⟨q_a0, f_a0, q_a1, f_a1⟩ := x_a.al
      clear q_u0 f_u0 q_u1 f_u1; obtain ⟨q_u0, f_u0, q_u1, f_u1⟩ := x_u.al
      clear q_v0 f_v0 q_v1 f_v1; obtain ⟨q_v0, f_v0, q_v1, f_v1⟩ := x_v.al
      clear q_s0 f_s0 q_s1 f_s1; obtain ⟨q_s0, f_s0, q_s1, f_s1⟩ := x_s.al
      clear q_t0 f_t0 q_t1 f_t1; obtain ⟨q_t0, f_t0, q_t1, f_t1⟩ := x_t.al
      rw [HS1.out] at z5 ⊢
      replace z5 := z5.slim B3.out
      go_wp2_with fail
      replace x_a := x_a.aside (b' := (ngB S1)) (A' := A5) (n' := n5) (c' := c5) (g := g3) (by omega)
      replace x_r := x_r.aside (b' := (ngB S1)) (A' := A5) (n' := n5) (c' := c5) (g := g3) (by omega)
      replace x_p := x_p.aside (b' := (ngB S1)) (A' := A5) (n' := n5) (c' := c5) (g := g3) (by omega)
      replace x_u := x_u.aside (b' := (ngB S1)) (A' := A5) (n' := n5) (c' := c5) (g := g3) (by omega)
      replace x_v := x_v.aside (b' := (ngB S1)) (A' := A5) (n' := n5) (c' := c5) (g := g3) (by omega)
      replace x_t := x_t.aside (b' := (ngB S1)) (A' := A5) (n' := n5) (c' := c5) (g := g3) (by omega)
      replace h := h.put (b' := (ngB S1)) (A' := A5) (n' := n5) (c' := c5) x_s
      replace z_u := z_u.put (b' := (ngB S1)) (A' := A5) (n' := n5) (c' := c5) x_s
      replace z_v := z_v.put (b' := (ngB S1)) (A' := A5) (n' := n5) (c' := c5) x_s
      replace z_s := z_s.put (b' := (ngB S1)) (A' := A5) (n' := n5) (c' := c5) x_s
      replace z_t := z_t.put (b' := (ngB S1)) (A' := A5) (n' := n5) (c' := c5) x_s
      replace z5 := z5.put (b' := (ngB S1)) (A' := A5) (n' := n5) (c' := c5) x_s
      replace hb := put_below (g := g3) hb (by omega) (.bool (ngB S1)) (.slice A5 n5 c5)
      replace x_s := x_s.put (ngB S1) A5 n5 c5
      clear q_a0 f_a0 q_a1 f_a1 q_u0 f_u0 q_u1 f_u1 q_v0 f_v0 q_v1 f_v1 q_s0 f_s0 q_s1 f_s1 q_t0 f_t0 q_t1 f_t1
      generalize (v31.setCell ⟨g3, 0, none⟩ (.bool (ngB S1))).setCell ⟨g3, 1, none⟩ (.slice A5 n5 c5) = v32 at *
      obtain ⟨q_a0, f_a0, q_a1, f_a1⟩ := x_a.al
      obtain ⟨q_u0, f_u0, q_u1, f_u1⟩ := x_u.al
      obtain ⟨q_v0, f_v0, q_v1, f_v1⟩ := x_v.al
      obtain ⟨q_s0, f_s0, q_s1, f_s1⟩ := x_s.al
      obtain ⟨q_t0, f_t0, q_t1, f_t1⟩ := x_t.al
      with_reducible refine (RAddZ_any z_t.zr z_v.zr 21 (by omega) (by omega) (by omega)).mono ?_
      rintro e v33 ⟨A6, n6, c6, rfl, z6, hb1⟩
      replace x_a := x_a.keep hb1
      replace x_r := x_r.keep hb1
      replace x_p := x_p.keep hb1
      replace x_u := x_u.keep hb1
      replace x_v := x_v.keep hb1
      replace x_s := x_s.keep hb1
      replace x_t := x_t.keep hb1
      replace h := h.keep hb1
      replace z_u := z_u.keep hb1
      replace z_v := z_v.keep hb1
      replace z_s := z_s.keep hb1
      replace z_t := z_t.keep hb1
      replace z5 := z5.keep hb1
      replace hb := bthen hb hb1
      clear hb1
      clear q_a0 f_a0 q_a1 f_a1; obtain ⟨q_a0, f_a0, q_a1, f_a1⟩ := x_a.al
      clear q_u0 f_u0 q_u1 f_u1; obtain ⟨q_u0, f_u0, q_u1, f_u1⟩ := x_u.al
      clear q_v0 f_v0 q_v1 f_v1; obtain ⟨q_v0, f_v0, q_v1, f_v1⟩ := x_v.al
      clear q_s0 f_s0 q_s1 f_s1; obtain ⟨q_s0, f_s0, q_s1, f_s1⟩ := x_s.al
      clear q_t0 f_t0 q_t1 f_t1; obtain ⟨q_t0, f_t0, q_t1, f_t1⟩ := x_t.al
      rw [HT1.out] at z6 ⊢
      replace z6 := z6.slim B4.out
      go_wp2_with fail
      replace x_a := x_a.aside (b' := (ngB T1)) (A' := A6) (n' := n6) (c' := c6) (g := g4) (by omega)
      replace x_r := x_r.aside (b' := (ngB T1)) (A' := A6) (n' := n6) (c' := c6) (g := g4) (by omega)
      replace x_p := x_p.aside (b' := (ngB T1)) (A' := A6) (n' := n6) (c' := c6) (g := g4) (by omega)
      replace x_u := x_u.aside (b' := (ngB T1)) (A' := A6) (n' := n6) (c' := c6) (g := g4) (by omega)
      replace x_v := x_v.aside (b' := (ngB T1)) (A' := A6) (n' := n6) (c' := c6) (g := g4) (by omega)
      replace x_s := x_s.aside (b' := (ngB T1)) (A' := A6) (n' := n6) (c' := c6) (g := g4) (by omega)
      replace h := h.put (b' := (ngB T1)) (A' := A6) (n' := n6) (c' := c6) x_t
      replace z_u := z_u.put (b' := (ngB T1)) (A' := A6) (n' := n6) (c' := c6) x_t
      replace z_v := z_v.put (b' := (ngB T1)) (A' := A6) (n' := n6) (c' := c6) x_t
      replace z_s := z_s.put (b' := (ngB T1)) (A' := A6) (n' := n6) (c' := c6) x_t
      replace z_t := z_t.put (b' := (ngB T1)) (A' := A6) (n' := n6) (c' := c6) x_t
      replace z5 := z5.put (b' := (ngB T1)) (A' := A6) (n' := n6) (c' := c6) x_t
      replace z6 := z6.put (b' := (ngB T1)) (A' := A6) (n' := n6) (c' := c6) x_t
      replace hb := put_below (g := g4) hb (by omega) (.bool (ngB T1)) (.slice A6 n6 c6)
      replace x_t := x_t.put (ngB T1) A6 n6 c6
      clear q_a0 f_a0 q_a1 f_a1 q_u0 f_u0 q_u1 f_u1 q_v0 f_v0 q_v1 f_v1 q_s0 f_s0 q_s1 f_s1 q_t0 f_t0 q_t1 f_t1
      generalize (v33.setCell ⟨g4, 0, none⟩ (.bool (ngB T1))).setCell ⟨g4, 1, none⟩ (.slice A6 n6 c6) = v34 at *
      obtain ⟨q_a0, f_a0, q_a1, f_a1⟩ := x_a.al
      obtain ⟨q_u0, f_u0, q_u1, f_u1⟩ := x_u.al
      obtain ⟨q_v0, f_v0, q_v1, f_v1⟩ := x_v.al
      obtain ⟨q_s0, f_s0, q_s1, f_s1⟩ := x_s.al
      obtain ⟨q_t0, f_t0, q_t1, f_t1⟩ := x_t.al
      with_reducible refine (Rdown_any z_u.zr h ((k : Int) + 1) Q (by omega) (by omega) (by omega)).mono ?_
      rintro e v35 ⟨A7, n7, c7, rfl, z7, hb1⟩
      replace x_a := x_a.keep hb1
      replace x_r := x_r.keep hb1
      replace x_p := x_p.keep hb1
      replace x_u := x_u.keep hb1
      replace x_v := x_v.keep hb1
      replace x_s := x_s.keep hb1
      replace x_t := x_t.keep hb1
      replace h := h.keep hb1
      replace z_u := z_u.keep hb1
      replace z_v := z_v.keep hb1
      replace z_s := z_s.keep hb1
      replace z_t := z_t.keep hb1
      replace z5 := z5.keep hb1
      replace z6 := z6.keep hb1
      replace hb := bthen hb hb1
      clear hb1
      clear q_a0 f_a0 q_a1 f_a1; obtain ⟨q_a0, f_a0, q_a1, f_a1⟩ := x_a.al
      clear q_u0 f_u0 q_u1 f_u1; obtain ⟨q_u0, f_u0, q_u1, f_u1⟩ := x_u.al
      clear q_v0 f_v0 q_v1 f_v1; obtain ⟨q_v0, f_v0, q_v1, f_v1⟩ := x_v.al
      clear q_s0 f_s0 q_s1 f_s1; obtain ⟨q_s0, f_s0, q_s1, f_s1⟩ := x_s.al
      clear q_t0 f_t0 q_t1 f_t1; obtain ⟨q_t0, f_t0, q_t1, f_t1⟩ := x_t.al
      rw [HU1.out] at z7 ⊢
      replace z7 := z7.slim B1.out
      go_wp2_with fail
      replace x_a := x_a.aside (b' := (ngB U1)) (A' := A7) (n' := n7) (c' := c7) (g := g1) (by omega)
      replace x_r := x_r.aside (b' := (ngB U1)) (A' := A7) (n' := n7) (c' := c7) (g := g1) (by omega)
      replace x_p := x_p.aside (b' := (ngB U1)) (A' := A7) (n' := n7) (c' := c7) (g := g1) (by omega)
      replace x_v := x_v.aside (b' := (ngB U1)) (A' := A7) (n' := n7) (c' := c7) (g := g1) (by omega)
      replace x_s := x_s.aside (b' := (ngB U1)) (A' := A7) (n' := n7) (c' := c7) (g := g1) (by omega)
      replace x_t := x_t.aside (b' := (ngB U1)) (A' := A7) (n' := n7) (c' := c7) (g := g1) (by omega)
      replace h := h.put (b' := (ngB U1)) (A' := A7) (n' := n7) (c' := c7) x_u
      replace z_u := z_u.put (b' := (ngB U1)) (A' := A7) (n' := n7) (c' := c7) x_u
      replace z_v := z_v.put (b' := (ngB U1)) (A' := A7) (n' := n7) (c' := c7) x_u
      replace z_s := z_s.put (b' := (ngB U1)) (A' := A7) (n' := n7) (c' := c7) x_u
      replace z_t := z_t.put (b' := (ngB U1)) (A' := A7) (n' := n7) (c' := c7) x_u
      replace z5 := z5.put (b' := (ngB U1)) (A' := A7) (n' := n7) (c' := c7) x_u
      replace z6 := z6.put (b' := (ngB U1)) (A' := A7) (n' := n7) (c' := c7) x_u
      replace z7 := z7.put (b' := (ngB U1)) (A' := A7) (n' := n7) (c' := c7) x_u
      replace hb := put_below (g := g1) hb (by omega) (.bool (ngB U1)) (.slice A7 n7 c7)
      replace x_u := x_u.put (ngB U1) A7 n7 c7
      clear q_a0 f_a0 q_a1 f_a1 q_u0 f_u0 q_u1 f_u1 q_v0 f_v0 q_v1 f_v1 q_s0 f_s0 q_s1 f_s1 q_t0 f_t0 q_t1 f_t1
      generalize (v35.setCell ⟨g1, 0, none⟩ (.bool (ngB U1))).setCell ⟨g1, 1, none⟩ (.slice A7 n7 c7) = v36 at *
      obtain ⟨q_a0, f_a0, q_a1, f_a1⟩ := x_a.al
      obtain ⟨q_u0, f_u0, q_u1, f_u1⟩ := x_u.al
      obtain ⟨q_v0, f_v0, q_v1, f_v1⟩ := x_v.al
      obtain ⟨q_s0, f_s0, q_s1, f_s1⟩ := x_s.al
      obtain ⟨q_t0, f_t0, q_t1, f_t1⟩ := x_t.al
      with_reducible refine (Rup_any z_v.zr h ((k : Int) + 1) Q (by omega) (by omega) (by omega)).mono ?_
      rintro e v37 ⟨A8, n8, c8, rfl, z8, hb1⟩
      replace x_a := x_a.keep hb1
      replace x_r := x_r.keep hb1
      replace x_p := x_p.keep hb1
      replace x_u := x_u.keep hb1
      replace x_v := x_v.keep hb1
      replace x_s := x_s.keep hb1
      replace x_t := x_t.keep hb1
      replace h := h.keep hb1
      replace z_u := z_u.keep hb1
      replace z_v := z_v.keep hb1
      replace z_s := z_s.keep hb1
      replace z_t := z_t.keep hb1
      replace z5 := z5.keep hb1
      replace z6 := z6.keep hb1
      replace z7 := z7.keep hb1
      replace hb := bthen hb hb1
      clear hb1
      clear q_a0 f_a0 q_a1 f_a1; obtain ⟨q_a0, f_a0, q_a1, f_a1⟩ := x_a.al
      clear q_u0 f_u0 q_u1 f_u1; obtain ⟨q_u0, f_u0, q_u1, f_u1⟩ := x_u.al
      clear q_v0 f_v0 q_v1 f_v1; obtain ⟨q_v0, f_v0, q_v1, f_v1⟩ := x_v.al
      clear q_s0 f_s0 q_s1 f_s1; obtain ⟨q_s0, f_s0, q_s1, f_s1⟩ := x_s.al
      clear q_t0 f_t0 q_t1 f_t1; obtain ⟨q_t0, f_t0, q_t1, f_t1⟩ := x_t.al
      rw [HV1.out] at z8 ⊢
      replace z8 := z8.slim B2.out
      go_wp2_with fail
      replace x_a := x_a.aside (b' := (ngB V1)) (A' := A8) (n' := n8) (c' := c8) (g := g2) (by omega)
      replace x_r := x_r.aside (b' := (ngB V1)) (A' := A8) (n' := n8) (c' := c8) (g := g2) (by omega)
      replace x_p := x_p.aside (b' := (ngB V1)) (A' := A8) (n' := n8) (c' := c8) (g := g2) (by omega)
      replace x_u := x_u.aside (b' := (ngB V1)) (A' := A8) (n' := n8) (c' := c8) (g := g2) (by omega)
      replace x_s := x_s.aside (b' := (ngB V1)) (A' := A8) (n' := n8) (c' := c8) (g := g2) (by omega)
      replace x_t := x_t.aside (b' := (ngB V1)) (A' := A8) (n' := n8) (c' := c8) (g := g2) (by omega)
      replace h := h.put (b' := (ngB V1)) (A' := A8) (n' := n8) (c' := c8) x_v
      replace z_u := z_u.put (b' := (ngB V1)) (A' := A8) (n' := n8) (c' := c8) x_v
      replace z_v := z_v.put (b' := (ngB V1)) (A' := A8) (n' := n8) (c' := c8) x_v
      replace z_s := z_s.put (b' := (ngB V1)) (A' := A8) (n' := n8) (c' := c8) x_v
      replace z_t := z_t.put (b' := (ngB V1)) (A' := A8) (n' := n8) (c' := c8) x_v
      replace z5 := z5.put (b' := (ngB V1)) (A' := A8) (n' := n8) (c' := c8) x_v
      replace z6 := z6.put (b' := (ngB V1)) (A' := A8) (n' := n8) (c' := c8) x_v
      replace z7 := z7.put (b' := (ngB V1)) (A' := A8) (n' := n8) (c' := c8) x_v
      replace z8 := z8.put (b' := (ngB V1)) (A' := A8) (n' := n8) (c' := c8) x_v
      replace hb := put_below (g := g2) hb (by omega) (.bool (ngB V1)) (.slice A8 n8 c8)
      replace x_v := x_v.put (ngB V1) A8 n8 c8
      clear q_a0 f_a0 q_a1 f_a1 q_u0 f_u0 q_u1 f_u1 q_v0 f_v0 q_v1 f_v1 q_s0 f_s0 q_s1 f_s1 q_t0 f_t0 q_t1 f_t1
      generalize (v37.setCell ⟨g2, 0, none⟩ (.bool (ngB V1))).setCell ⟨g2, 1, none⟩ (.slice A8 n8 c8) = v38 at *
      obtain ⟨q_a0, f_a0, q_a1, f_a1⟩ := x_a.al
      obtain ⟨q_u0, f_u0, q_u1, f_u1⟩ := x_u.al
      obtain ⟨q_v0, f_v0, q_v1, f_v1⟩ := x_v.al
      obtain ⟨q_s0, f_s0, q_s1, f_s1⟩ := x_s.al
      obtain ⟨q_t0, f_t0, q_t1, f_t1⟩ := x_t.al
      go_roundw
      case rel => exact ⟨k + 1, by omega, by go_num, hb, x_a, x_r, x_p, ⟨_, _, _, by rw [EU1.out]; exact x_u, by rw [EU1.out]; exact z7⟩, ⟨_, _, _, by rw [EV1.out]; exact x_v, by rw [EV1.out]; exact z8⟩, ⟨_, _, _, by rw [ES1.out]; exact x_s, by rw [ES1.out]; exact z5⟩, ⟨_, _, _, by rw [ET1.out]; exact x_t, by rw [ET1.out]; exact z6⟩⟩
      case measure => simp [intOf]; omega

end Go.Proofs.YthlpdljkclngdaaGreat
