/-
 the document's answers for rows: Atan.
-/
import Derived.Test.YtiikmjnnlckiiaaGreatRturn
import Derived.Test.YtiikmjnnlckiiaaGreatQdef
namespace Go.Proofs.YtiikmjnnlckiiaaGreat
open Go.RowKit
set_option linter.unusedVariables false

theorem Gr.st {w : World} {g n c n' c' : Nat} {b b' : Bool} {A A' : Option Addr} (x : Bx w g b A n c) : Gr (.slice (some ⟨g, 0, none⟩) 0 0) w ((w.setCell ⟨g, 0, none⟩ (.bool b')).setCell ⟨g, 1, none⟩ (.slice A' n' c')) := by
 have hv := put_below (Below.refl 0 w) (Nat.zero_le g) (.bool b') (.slice A' n' c')
 refine ⟨⟨hv.os, hv.tape, hv.output, hv.size, fun k hk hr => ?_⟩, fun _ _ _ _ h => h.sput x⟩
 have hne : k ≠ g := fun e => hr (by rw [e]; rfl)
 exact (Below.heap_setCell _ _ _ k hne).trans (Below.heap_setCell _ _ _ k hne)
theorem Gz.put {w : World} {B J g n c n' c' : Nat} {s : Value} {l : List Int} {b b' : Bool} {A A' : Option Addr} (h : Gz w B J s l) (hg : g < B) (x : Bx w g b A n c) : Gz ((w.setCell ⟨g, 0, none⟩ (.bool b')).setCell ⟨g, 1, none⟩ (.slice A' n' c')) B J s l :=
 h.gr (Gr.st x) (fun k hk => by
  have e : g = k := by simpa [Value.ownBlock] using hk
  subst e
  exact h.ne (.inl hg))
theorem Gz.els {w : World} {B k : Nat} {s : Value} {f : Nat → Int} (h : Gz w B 20 s ((List.range k).map f)) (hk : 0 < k) : ∃ g cap, s = .slice (some ⟨g, 0, none⟩) k cap ∧ B ≤ g ∧ g < w.heap.size ∧ Els w g k f := by
 obtain ⟨g, cap, h1, h2, h3, h4⟩ := h.at_ (by simpa using hk)
 have e : ((List.range k).map f).length = k := by simp
 refine ⟨g, cap, by rw [h1, e], h2, h3, fun i hi => ?_⟩
 obtain ⟨A, n, c, i1, i2, i3⟩ := h4 i (by rw [e]; exact hi)
 have e2 : ((List.range k).map f)[i]'(by rw [e]; exact hi) = f i := by simp
 rw [e2] at i1 i3
 exact ⟨A, n, c, i1, i2, i3⟩
theorem range_snoc (f : Nat → Int) (k : Nat) : (List.range (k + 1)).map f = (List.range k).map f ++ [f k] := by rw [List.range_succ, List.map_append]; rfl
/-- What the loop that gathers keeps. -/
def WvRel (w : World) (bs : World → Prop) (gu gv : Nat) (U V : Int) (B : Nat) (l m : List Int) (s t : Value) (wr : World) : Prop :=
 Below w.heap.size w wr ∧ bs wr ∧ Bn wr gu U 20 ∧ Bn wr gv V 20 ∧ Gz wr B 20 s l ∧ Gz wr B 20 t m ∧ Ap s t
end Go.Proofs.YtiikmjnnlckiiaaGreat
namespace Go.Proofs.YtiikmjnnlckiiaaGreat
open Go.RowKit
set_option linter.unusedVariables false

set_option maxRecDepth 100000 in
set_option maxHeartbeats 64000000 in
theorem RAtan_yes {b : Bool} {A : Option Addr} {n c : Nat} {X : Int} {j : Nat} {w : World} (h : Zr w b A n c X j) (Q M : Nat) (hQ : Q ≤ 1200) (hM : 1 ≤ M ∧ M ≤ 400) (hX : 0 ≤ X ∧ 2 * X ≤ twP Q) (hj : j ≤ 20) :
  Calls Tryz.prog 47 #[.agg #[.bool b, .slice A n c], .int .i64 (Q : Nat), .int .i64 (M : Nat)] w (Ou2 w (rwLo 2 X Q M) (rwHi 2 X Q M) 0 25) := by
 have hX1 : X ≤ twP Q := by omega
 have hp := tw_pos Q
 have hsi := ta_si hX.1 hX1 hQ
 have HMY := Lib.hid (may_yes (d := 1) (e := 1) hQ hM hX.1 (by rw [sc_one]; omega))
 have hcd := ta_cd2 hX.1 hX1
 have HS := Lib.hid hsi
 have HF : Hid (∀ k, k ≤ 801 → Si (altI (taC X Q) (taD X Q) k) 20) := Lib.hid fun k hk => si_alt hQ (fun i => by have := hcd i; omega) (fun i => by have := hcd i; omega) (fun i => by have := hcd i; omega) (fun i => by have := hcd i; omega) k (by omega)
 have HG : Hid (∀ k, k ≤ 801 → Si (altI (taD X Q) (taC X Q) k) 20) := Lib.hid fun k hk => si_alt hQ (fun i => by have := hcd i; omega) (fun i => by have := hcd i; omega) (fun i => by have := hcd i; omega) (fun i => by have := hcd i; omega) k (by omega)
 have w8 : IntKind.i64.wrap (2 * (M : Int)) = 2 * M := wrapK (by omega) (by omega)
 have w7 : IntKind.i64.wrap (2 * (Q : Int)) = 2 * Q := wrapK (by omega) (by omega)
 clear hX hX1 hsi hcd hp
 go_enter Tryz.func47, Tryz.ntmps47
 go_upto_region 1 with fail
 have x_a : Bx (w.alloc (.cells #[.bool b, .slice A n c] 25)) (w.heap.size) b A n c := by have := Bx.new w b A n c; simpa using this
 replace x_a := x_a.alloc (.cells #[.bool false, .slice none 0 0] 25)
 have x_r : Bx ((w.alloc (.cells #[.bool b, .slice A n c] 25)).alloc (.cells #[.bool false, .slice none 0 0] 25)) (w.heap.size + 1) false none 0 0 := by have := Bx.new (w.alloc (.cells #[.bool b, .slice A n c] 25)) false none 0 0; simpa using this
 replace x_a := x_a.alloc (.cells #[.bool false, .slice none 0 0] 25)
 replace x_r := x_r.alloc (.cells #[.bool false, .slice none 0 0] 25)
 have x_p : Bx (((w.alloc (.cells #[.bool b, .slice A n c] 25)).alloc (.cells #[.bool false, .slice none 0 0] 25)).alloc (.cells #[.bool false, .slice none 0 0] 25)) (w.heap.size + 1 + 1) false none 0 0 := by have := Bx.new ((w.alloc (.cells #[.bool b, .slice A n c] 25)).alloc (.cells #[.bool false, .slice none 0 0] 25)) false none 0 0; simpa using this
 have hb : Below w.heap.size w (((w.alloc (.cells #[.bool b, .slice A n c] 25)).alloc (.cells #[.bool false, .slice none 0 0] 25)).alloc (.cells #[.bool false, .slice none 0 0] 25)) := (Below.alloc (Below.alloc (Below.alloc (Below.refl w.heap.size w) (by simp) (.cells #[.bool b, .slice A n c] 25)) (by simp) (.cells #[.bool false, .slice none 0 0] 25)) (by simp; omega) (.cells #[.bool false, .slice none 0 0] 25))
 generalize ((w.alloc (.cells #[.bool b, .slice A n c] 25)).alloc (.cells #[.bool false, .slice none 0 0] 25)).alloc (.cells #[.bool false, .slice none 0 0] 25) = v1 at *
 replace h := h.keep hb
 have q_a := x_a.al
 have q_r := x_r.al
 have q_p := x_p.al
 go_wp2_with fail
 with_reducible refine (Rmay_any h Q M 1 1 (by omega) (by omega)).mono ?_
 rintro e v2 ⟨rfl, hb1⟩
 obtain ⟨x_a, x_r, x_p, h⟩ := mv4 hb1 x_a x_r x_p h
 replace hb := bthen hb hb1
 clear hb1
 replace q_a := x_a.al
 replace q_r := x_r.al
 replace q_p := x_p.al
 rw [HMY.out]
 clear q_r
 clear q_p
 go_wp2_with fail
 with_reducible refine (RMulZ_any h h 40 (by omega) (by omega)).mono ?_
 rintro e v3 ⟨A5, n5, c5, rfl, z5, hb1⟩
 obtain ⟨x_a, x_r, x_p, h⟩ := mv4 hb1 x_a x_r x_p h
 replace hb := bthen hb hb1
 clear hb1
 replace q_a := x_a.al
 go_upto_region 5 with fail
 have hb1 := below_alloc v3 (.cells #[.bool (ngB (X * X)), .slice A5 n5 c5] 25)
 have l_a_q := x_a.lt
 have l_r_q := x_r.lt
 have l_p_q := x_p.lt
 have x_q := Bx.new v3 (ngB (X * X)) A5 n5 c5
 have e_q : w.heap.size ≤ v3.heap.size := hb.size
 clear q_a
 obtain ⟨x_a, x_r, x_p, h, z5⟩ := mv5 hb1 x_a x_r x_p h z5
 replace hb := bthen hb hb1
 clear hb1
 generalize v3.alloc (.cells #[.bool (ngB (X * X)), .slice A5 n5 c5] 25) = v4 at *
 have q_a := x_a.al
 have q_q := x_q.al
 go_wp2_with fail
 with_reducible refine (RNormZ_any h 20 (by omega) (by omega)).mono ?_
 rintro e v5 ⟨A8, n8, c8, rfl, z8, hb1⟩
 obtain ⟨x_a, x_r, x_p, x_q, h, z5⟩ := mv6 hb1 x_a x_r x_p x_q h z5
 replace hb := bthen hb hb1
 clear hb1
 replace q_a := x_a.al
 replace q_q := x_q.al
 go_upto_region 6 with fail
 have hb1 := below_alloc v5 (.cells #[.bool (ngB X), .slice A8 n8 c8] 25)
 have l_a_u := x_a.lt
 have l_r_u := x_r.lt
 have l_p_u := x_p.lt
 have l_q_u := x_q.lt
 have x_u := Bx.new v5 (ngB X) A8 n8 c8
 have e_u : w.heap.size ≤ v5.heap.size := hb.size
 clear q_a q_q
 obtain ⟨x_a, x_r, x_p, x_q, h, z5, z8⟩ := mv7 hb1 x_a x_r x_p x_q h z5 z8
 replace hb := bthen hb hb1
 clear hb1
 generalize v5.alloc (.cells #[.bool (ngB X), .slice A8 n8 c8] 25) = v6 at *
 have q_a := x_a.al
 have q_q := x_q.al
 have q_u := x_u.al
 go_upto_region 7 with fail
 have hb1 := below_alloc v6 (.cells #[.bool (ngB X), .slice A8 n8 c8] 25)
 have l_a_v := x_a.lt
 have l_r_v := x_r.lt
 have l_p_v := x_p.lt
 have l_q_v := x_q.lt
 have l_u_v := x_u.lt
 have x_v := Bx.new v6 (ngB X) A8 n8 c8
 have e_v : w.heap.size ≤ v6.heap.size := hb.size
 clear q_a q_q q_u
 obtain ⟨x_a, x_r, x_p, x_q, x_u, h, z5, z8⟩ := mv8 hb1 x_a x_r x_p x_q x_u h z5 z8
 replace hb := bthen hb hb1
 clear hb1
 generalize v6.alloc (.cells #[.bool (ngB X), .slice A8 n8 c8] 25) = v7 at *
 have q_a := x_a.al
 have q_q := x_q.al
 have q_u := x_u.al
 have q_v := x_v.al
 go_wp2_with fail
 with_reducible refine (ROf_any 1 (by omega) (by omega)).mono ?_
 rintro e v8 ⟨A9, n9, c9, rfl, z9, hb1⟩
 obtain ⟨x_a, x_r, x_p, x_q, x_u, x_v, h, z5, z8⟩ := mv9 hb1 x_a x_r x_p x_q x_u x_v h z5 z8
 replace hb := bthen hb hb1
 clear hb1
 replace q_a := x_a.al
 replace q_q := x_q.al
 replace q_u := x_u.al
 replace q_v := x_v.al
 go_upto_region 8 with fail
 have hb1 := below_alloc v8 (.cells #[.bool (ngB 1), .slice A9 n9 c9] 25)
 have l_a_o := x_a.lt
 have l_r_o := x_r.lt
 have l_p_o := x_p.lt
 have l_q_o := x_q.lt
 have l_u_o := x_u.lt
 have l_v_o := x_v.lt
 have x_o := Bx.new v8 (ngB 1) A9 n9 c9
 have e_o : w.heap.size ≤ v8.heap.size := hb.size
 clear q_a q_q q_u q_v
 obtain ⟨x_a, x_r, x_p, x_q, x_u, x_v, h, z5, z8⟩ := mv9 hb1 x_a x_r x_p x_q x_u x_v h z5 z8
 replace z9 := z9.keep hb1
 replace hb := bthen hb hb1
 clear hb1
 generalize v8.alloc (.cells #[.bool (ngB 1), .slice A9 n9 c9] 25) = v9 at *
 have q_a := x_a.al
 have q_q := x_q.al
 have q_u := x_u.al
 have q_v := x_v.al
 have q_o := x_o.al
 go_wp2_with fail
 have hrel0 : WvRel w (fun wq => Bx wq w.heap.size b A n c ∧ Bx wq (w.heap.size + 1) false none 0 0 ∧ Bx wq (w.heap.size + 1 + 1) false none 0 0 ∧ Bn wq (v3.heap.size) (X * X) 40 ∧ Bn wq (v8.heap.size) 1 20) (v5.heap.size) (v6.heap.size) (taU X Q 0) (taV X Q 0) ((v8.heap.size) + 1) ((List.range 0).map (taC X Q)) ((List.range 0).map (taD X Q)) (.slice none 0 0) (.slice none 0 0) v9 := ⟨hb, ⟨x_a, x_r, x_p, ⟨_, _, _, x_q, z5⟩, ⟨_, _, _, x_o, z9.wide (by omega)⟩⟩, ⟨_, _, _, x_u, z8⟩, ⟨_, _, _, x_v, z8⟩, Gz.nil _ _ _, Gz.nil _ _ _, Ap.nil _⟩
 clear q_a q_q q_u q_v q_o
 obtain ⟨gq, hgq⟩ : ∃ g, v3.heap.size = g := ⟨_, rfl⟩
 obtain ⟨gu, hgu⟩ : ∃ g, v5.heap.size = g := ⟨_, rfl⟩
 obtain ⟨gv, hgv⟩ : ∃ g, v6.heap.size = g := ⟨_, rfl⟩
 obtain ⟨go, hgo⟩ : ∃ g, v8.heap.size = g := ⟨_, rfl⟩
 have hgs : w.heap.size + 2 < gq ∧ gq < gu ∧ gu < gv ∧ gv < go := by have := x_p.lt; omega
 rw [hgq, hgu, hgv, hgo] at hrel0
 simp only [hgq, hgu, hgv, hgo]
 clear hb x_a x_r x_p x_q x_u x_v x_o z5 z8 z9 h hgq hgu hgv hgo
 go_loopw [14, 15, 16] (fun sv tv kv wr => ∃ k : Nat, ∃ K1 : Int, k ≤ 2 * M + 1 ∧ K1 = k ∧ kv = .int .i64 K1 ∧ WvRel w (fun wq => Bx wq w.heap.size b A n c ∧ Bx wq (w.heap.size + 1) false none 0 0 ∧ Bx wq (w.heap.size + 1 + 1) false none 0 0 ∧ Bn wq gq (X * X) 40 ∧ Bn wq go 1 20) gu gv (taU X Q k) (taV X Q k) (go + 1) ((List.range k).map (taC X Q)) ((List.range k).map (taD X Q)) sv tv wr) (fun _ _ kv _ => 2 * M + 3 - (intOf kv).toNat)
 case atStart => exact ⟨0, 0, by omega, by omega, rfl, hrel0⟩
 case round =>
  clear hrel0
  obtain ⟨k, K1, hk, hK, rfl, hb, ⟨x_a, x_r, x_p, ⟨Aq, nq, cq, x_q, z_q⟩, ⟨Ao, no, co, x_o, z_o⟩⟩, ⟨Au, nu, cu, x_u, z_u⟩, ⟨Av, nv, cv, x_v, z_v⟩, gzL, gzH, hap⟩ := hrel
  obtain ⟨U, hU⟩ : ∃ e, taU X Q k = e := ⟨_, rfl⟩
  obtain ⟨V, hV⟩ : ∃ e, taV X Q k = e := ⟨_, rfl⟩
  rw [hU] at x_u z_u; rw [hV] at x_v z_v
  rcases (show k = 2 * M + 1 ∨ k < 2 * M + 1 by omega) with hk2 | hk2
  ·obtain ⟨ga, cpa, rfl, hga, hla, hA⟩ := gzL.els (by omega)
   obtain ⟨gb, cpb, rfl, hgb, hlb, hB⟩ := gzH.els (by omega)
   obtain ⟨L0, hL0⟩ : ∃ e, altI (taC X Q) (taD X Q) (k - 1) = e := ⟨_, rfl⟩
   obtain ⟨H0, hH0⟩ : ∃ e, altI (taD X Q) (taC X Q) k = e := ⟨_, rfl⟩
   have HL : Hid (rwLo 2 X Q M = L0) := Lib.hid (by rw [← hL0, hk2]; rfl)
   have HH : Hid (rwHi 2 X Q M = H0) := Lib.hid (by rw [← hH0, hk2]; rfl)
   have HL0 := Lib.hid hL0; have HH0 := Lib.hid hH0; have HK := Lib.hid hK
   have kb : 1 ≤ k ∧ k ≤ 801 ∧ k % 2 = 1 ∧ (2 * (M : Int) < K1) := by omega
   clear hL0 hH0 hU hV hk2 hK gzL gzH hap
   have q_r := x_r.al
   have q_p := x_p.al
   go_wp2_with fail
   with_reducible refine (Rturned_any ⟨kb.1, kb.2.1⟩ kb.2.2.1 hla hlb hA hB HF.out HG.out).mono ?_
   rintro e v31 ⟨A8, n8, c8, A9, n9, c9, rfl, z8, z9, hb1⟩
   obtain ⟨x_a, x_r, x_p, x_q, x_u, x_v, x_o, z_u⟩ := mv8 hb1 x_a x_r x_p x_q x_u x_v x_o z_u
   replace hb := bthen hb hb1
   clear hb1
   replace q_r := x_r.al
   replace q_p := x_p.al
   rw [HL0.out] at z8 ⊢; rw [HH0.out] at z9 ⊢
   have y_r := ((x_r.alloc (.cells #[.bool (ngB L0), .slice A8 n8 c8] 25)).alloc (.cells #[.bool (ngB H0), .slice A9 n9 c9] 25)); have yq_r0 := y_r.c0; have yq_r1 := y_r.c1
   have y_p := ((x_p.alloc (.cells #[.bool (ngB L0), .slice A8 n8 c8] 25)).alloc (.cells #[.bool (ngB H0), .slice A9 n9 c9] 25)); have yq_p0 := y_p.c0; have yq_p1 := y_p.c1
   go_upto_region 18 with fail
   clear y_r yq_r0 yq_r1 y_p yq_p0 yq_p1
   have l_a_c := x_a.lt
   have l_r_c := x_r.lt
   have l_p_c := x_p.lt
   have l_q_c := x_q.lt
   have l_u_c := x_u.lt
   have l_v_c := x_v.lt
   have l_o_c := x_o.lt
   have e_c : w.heap.size ≤ v31.heap.size := hb.size
   have hb1 := below_alloc2 v31 (.cells #[.bool (ngB L0), .slice A8 n8 c8] 25) (.cells #[.bool (ngB H0), .slice A9 n9 c9] 25)
   have x_c := (Bx.new v31 (ngB L0) A8 n8 c8).alloc (.cells #[.bool (ngB H0), .slice A9 n9 c9] 25)
   have x_d : Bx ((v31.alloc (.cells #[.bool (ngB L0), .slice A8 n8 c8] 25)).alloc (.cells #[.bool (ngB H0), .slice A9 n9 c9] 25)) (v31.heap.size + 1) (ngB H0) A9 n9 c9 := by have := Bx.new (v31.alloc (.cells #[.bool (ngB L0), .slice A8 n8 c8] 25)) (ngB H0) A9 n9 c9; simpa using this
   clear q_r q_p
   obtain ⟨x_a, x_r, x_p, x_q, x_u, x_v, x_o, z_u, z8⟩ := mv9 hb1 x_a x_r x_p x_q x_u x_v x_o z_u z8
   replace z9 := z9.keep hb1
   replace hb := bthen hb hb1
   clear hb1
   generalize (v31.alloc (.cells #[.bool (ngB L0), .slice A8 n8 c8] 25)).alloc (.cells #[.bool (ngB H0), .slice A9 n9 c9] 25) = v32 at *
   have q_r := x_r.al
   have q_p := x_p.al
   have q_c := x_c.al
   have q_d := x_d.al
   go_region
   all_goals
    replace x_a := x_a.aside (b' := (ngB L0)) (A' := A8) (n' := n8) (c' := c8) (g := w.heap.size + 1) (by omega)
    replace x_p := x_p.aside (b' := (ngB L0)) (A' := A8) (n' := n8) (c' := c8) (g := w.heap.size + 1) (by omega)
    replace x_q := x_q.aside (b' := (ngB L0)) (A' := A8) (n' := n8) (c' := c8) (g := w.heap.size + 1) (by omega)
    replace x_u := x_u.aside (b' := (ngB L0)) (A' := A8) (n' := n8) (c' := c8) (g := w.heap.size + 1) (by omega)
    replace x_v := x_v.aside (b' := (ngB L0)) (A' := A8) (n' := n8) (c' := c8) (g := w.heap.size + 1) (by omega)
    replace x_o := x_o.aside (b' := (ngB L0)) (A' := A8) (n' := n8) (c' := c8) (g := w.heap.size + 1) (by omega)
    replace x_c := x_c.aside (b' := (ngB L0)) (A' := A8) (n' := n8) (c' := c8) (g := w.heap.size + 1) (by omega)
    replace x_d := x_d.aside (b' := (ngB L0)) (A' := A8) (n' := n8) (c' := c8) (g := w.heap.size + 1) (by omega)
    replace z_u := z_u.put (b' := (ngB L0)) (A' := A8) (n' := n8) (c' := c8) x_r
    replace z8 := z8.put (b' := (ngB L0)) (A' := A8) (n' := n8) (c' := c8) x_r
    replace z9 := z9.put (b' := (ngB L0)) (A' := A8) (n' := n8) (c' := c8) x_r
    replace hb := put_below (g := w.heap.size + 1) hb (by omega) (.bool (ngB L0)) (.slice A8 n8 c8)
    replace x_r := x_r.put (ngB L0) A8 n8 c8
    clear q_r q_p q_c q_d
    generalize (v32.setCell ⟨w.heap.size + 1, 0, none⟩ (.bool (ngB L0))).setCell ⟨w.heap.size + 1, 1, none⟩ (.slice A8 n8 c8) = v33 at *
    have q_r := x_r.al
    have q_p := x_p.al
    have q_c := x_c.al
    have q_d := x_d.al
    replace x_a := x_a.aside (b' := (ngB H0)) (A' := A9) (n' := n9) (c' := c9) (g := w.heap.size + 1 + 1) (by omega)
    replace x_r := x_r.aside (b' := (ngB H0)) (A' := A9) (n' := n9) (c' := c9) (g := w.heap.size + 1 + 1) (by omega)
    replace x_q := x_q.aside (b' := (ngB H0)) (A' := A9) (n' := n9) (c' := c9) (g := w.heap.size + 1 + 1) (by omega)
    replace x_u := x_u.aside (b' := (ngB H0)) (A' := A9) (n' := n9) (c' := c9) (g := w.heap.size + 1 + 1) (by omega)
    replace x_v := x_v.aside (b' := (ngB H0)) (A' := A9) (n' := n9) (c' := c9) (g := w.heap.size + 1 + 1) (by omega)
    replace x_o := x_o.aside (b' := (ngB H0)) (A' := A9) (n' := n9) (c' := c9) (g := w.heap.size + 1 + 1) (by omega)
    replace x_c := x_c.aside (b' := (ngB H0)) (A' := A9) (n' := n9) (c' := c9) (g := w.heap.size + 1 + 1) (by omega)
    replace x_d := x_d.aside (b' := (ngB H0)) (A' := A9) (n' := n9) (c' := c9) (g := w.heap.size + 1 + 1) (by omega)
    replace z_u := z_u.put (b' := (ngB H0)) (A' := A9) (n' := n9) (c' := c9) x_p
    replace z8 := z8.put (b' := (ngB H0)) (A' := A9) (n' := n9) (c' := c9) x_p
    replace z9 := z9.put (b' := (ngB H0)) (A' := A9) (n' := n9) (c' := c9) x_p
    replace hb := put_below (g := w.heap.size + 1 + 1) hb (by omega) (.bool (ngB H0)) (.slice A9 n9 c9)
    replace x_p := x_p.put (ngB H0) A9 n9 c9
    clear q_r q_p q_c q_d
    generalize (v33.setCell ⟨w.heap.size + 1 + 1, 0, none⟩ (.bool (ngB H0))).setCell ⟨w.heap.size + 1 + 1, 1, none⟩ (.slice A9 n9 c9) = v34 at *
    have q_r := x_r.al
    have q_p := x_p.al
    have q_c := x_c.al
    have q_d := x_d.al
    replace z8 := z8.wide (show 20 ≤ 25 by omega)
    replace z9 := z9.wide (show 20 ≤ 25 by omega)
    go_wp2
    refine bodyPost_ret (v := .tuple #[.agg #[.bool (ngB L0), .slice A8 n8 c8], .agg #[.bool (ngB H0), .slice A9 n9 c9], .int .i64 0]) (by simp [results, Tryz.results47, go_sem, q_r, q_p]) rfl ?_
    exact Ou2.mk HL.out HH.out z8.drw z9.drw (below_drew hb)
  ·obtain ⟨U1, hU1⟩ : ∃ e, taU X Q (k + 1) = e := ⟨_, rfl⟩
   obtain ⟨V1, hV1⟩ : ∃ e, taV X Q (k + 1) = e := ⟨_, rfl⟩
   obtain ⟨C, hC⟩ : ∃ e, taC X Q k = e := ⟨_, rfl⟩
   obtain ⟨D, hD⟩ : ∃ e, taD X Q k = e := ⟨_, rfl⟩
   obtain ⟨lf, hlf⟩ : ∃ e, (List.range k).map (taC X Q) = e := ⟨_, rfl⟩
   obtain ⟨lg, hlg⟩ : ∃ e, (List.range k).map (taD X Q) = e := ⟨_, rfl⟩
   have HU1 : Hid (U * (X * X) / 2 ^ (2 * (Q : Int)).toNat / 1 = U1) := Lib.hid (by rw [← hU]; exact (ta_dn X Q k).trans hU1)
   have HV1 : Hid (-(-(-(-(V * (X * X)) / 2 ^ (2 * (Q : Int)).toNat)) / 1) = V1) := Lib.hid (by rw [← hV]; exact (ta_up X Q k).trans hV1)
   have HC : Hid (U * 1 / 2 ^ (0 : Int).toNat / (2 * K1 + 1) = C) := Lib.hid (by rw [hK, dn_one, ← hU]; exact hC)
   have HD : Hid (-(-(-(-(V * 1) / 2 ^ (0 : Int).toNat)) / (2 * K1 + 1)) = D) := Lib.hid (by rw [hK, up_one, ← hV]; exact hD)
   have B1 : Hid (Si U1 20) := Lib.hid (by rw [← hU1]; exact (HS.out _).1.1); have B2 : Hid (Si V1 20) := Lib.hid (by rw [← hV1]; exact (HS.out _).1.2); have B3 : Hid (Si C 20) := Lib.hid (by rw [← hC]; exact (HS.out _).2.1); have B4 : Hid (Si D 20) := Lib.hid (by rw [← hD]; exact (HS.out _).2.2)
   have ll : lf.length ≤ 1000 ∧ lg.length ≤ 1000 := by rw [← hlf, ← hlg]; simp; omega
   have HLF : Hid (lf ++ [C] = (List.range (k + 1)).map (taC X Q)) := Lib.hid (by rw [range_snoc, hlf, hC])
   have HLG : Hid (lg ++ [D] = (List.range (k + 1)).map (taD X Q)) := Lib.hid (by rw [range_snoc, hlg, hD])
   rw [hlf] at gzL; rw [hlg] at gzH
   have kb : 0 ≤ K1 ∧ K1 ≤ 2 * (M : Int) ∧ K1 ≤ 800 := by omega
   have a1 : IntKind.i64.wrap (2 * K1) = 2 * K1 := wrapK (by omega) (by omega)
   have a2 : IntKind.i64.wrap (2 * K1 + 1) = 2 * K1 + 1 := wrapK (by omega) (by omega)
   have a7 : IntKind.i64.wrap (K1 + 1) = K1 + 1 := wrapK (by omega) (by omega)
   have HKK := Lib.hid hK; have EU := Lib.hid hU1; have EV := Lib.hid hV1
   clear hU hV hU1 hV1 hC hD hlf hlg hK
   have q_q := x_q.al
   have q_u := x_u.al
   have q_v := x_v.al
   have q_o := x_o.al
   go_wp2_with fail
   with_reducible refine (Rdown_any z_u.zr z_o.zr (2 * K1 + 1) 0 (by omega) (by omega) (by omega)).mono ?_
   rintro e v31 ⟨A20, n20, c20, rfl, z20, hb1⟩
   obtain ⟨x_a, x_r, x_p, x_q, x_u, x_v, x_o, z_q, z_u⟩ := mv9 hb1 x_a x_r x_p x_q x_u x_v x_o z_q z_u
   obtain ⟨z_v, z_o, gzL, gzH⟩ := mv4 hb1 z_v z_o gzL gzH
   replace hb := bthen hb hb1
   clear hb1
   replace q_q := x_q.al
   replace q_u := x_u.al
   replace q_v := x_v.al
   replace q_o := x_o.al
   rw [HC.out] at z20 ⊢
   replace z20 := z20.slim B3.out
   have lv := x_o.lt
   go_upto_region 14 with (at_builtin; refine wp_pushG (V := v31) rfl (.tmp 40) (.tmp 47) rfl rfl gzL (by omega) (by omega) z20 rfl ?_; intro sL9 v32 hcut)
   have gzN := hcut.1; have hgr := hcut.2.1; have hnw := hcut.2.2; clear hcut lv
   have hapN := (hap).nw gzH hnw
   replace gzH := gzH.gr hgr hap
   clear hap; have hap := hapN; clear hapN hnw
   replace x_a := x_a.gr hgr (gzL.ne (.inl (by omega)))
   replace x_r := x_r.gr hgr (gzL.ne (.inl (by omega)))
   replace x_p := x_p.gr hgr (gzL.ne (.inl (by omega)))
   replace x_q := x_q.gr hgr (gzL.ne (.inl (by omega)))
   replace x_u := x_u.gr hgr (gzL.ne (.inl (by omega)))
   replace x_v := x_v.gr hgr (gzL.ne (.inl (by omega)))
   replace x_o := x_o.gr hgr (gzL.ne (.inl (by omega)))
   replace z_q := z_q.gr hgr
   replace z_u := z_u.gr hgr
   replace z_v := z_v.gr hgr
   replace z_o := z_o.gr hgr
   replace z20 := z20.gr hgr
   replace hb := Gr.below hb hb.size gzL hgr (by omega)
   clear gzL; have gzL := gzN; clear gzN hgr
   clear q_q q_u q_v q_o
   have q_q := x_q.al
   have q_u := x_u.al
   have q_v := x_v.al
   have q_o := x_o.al
   go_wp2_with fail
   with_reducible refine (Rup_any z_v.zr z_o.zr (2 * K1 + 1) 0 (by omega) (by omega) (by omega)).mono ?_
   rintro e v33 ⟨A21, n21, c21, rfl, z21, hb1⟩
   obtain ⟨x_a, x_r, x_p, x_q, x_u, x_v, x_o, z_q, z_u⟩ := mv9 hb1 x_a x_r x_p x_q x_u x_v x_o z_q z_u
   obtain ⟨z_v, z_o, gzL, gzH, z20⟩ := mv5 hb1 z_v z_o gzL gzH z20
   replace hb := bthen hb hb1
   clear hb1
   replace q_q := x_q.al
   replace q_u := x_u.al
   replace q_v := x_v.al
   replace q_o := x_o.al
   rw [HD.out] at z21 ⊢
   replace z21 := z21.slim B4.out
   have lv := x_o.lt
   go_upto_region 15 with (at_builtin; refine wp_pushG (V := v33) rfl (.tmp 49) (.tmp 56) rfl rfl gzH (by omega) (by omega) z21 rfl ?_; intro sH9 v34 hcut)
   have gzN := hcut.1; have hgr := hcut.2.1; have hnw := hcut.2.2; clear hcut lv
   have hapN := (hap.symm).nw gzL hnw
   replace gzL := gzL.gr hgr hap.symm
   clear hap; have hap := hapN.symm; clear hapN hnw
   replace x_a := x_a.gr hgr (gzH.ne (.inl (by omega)))
   replace x_r := x_r.gr hgr (gzH.ne (.inl (by omega)))
   replace x_p := x_p.gr hgr (gzH.ne (.inl (by omega)))
   replace x_q := x_q.gr hgr (gzH.ne (.inl (by omega)))
   replace x_u := x_u.gr hgr (gzH.ne (.inl (by omega)))
   replace x_v := x_v.gr hgr (gzH.ne (.inl (by omega)))
   replace x_o := x_o.gr hgr (gzH.ne (.inl (by omega)))
   replace z_q := z_q.gr hgr
   replace z_u := z_u.gr hgr
   replace z_v := z_v.gr hgr
   replace z_o := z_o.gr hgr
   replace z20 := z20.gr hgr
   replace z21 := z21.gr hgr
   replace hb := Gr.below hb hb.size gzH hgr (by omega)
   clear gzH; have gzH := gzN; clear gzN hgr
   clear q_q q_u q_v q_o
   have q_q := x_q.al
   have q_u := x_u.al
   have q_v := x_v.al
   have q_o := x_o.al
   go_wp2_with fail
   with_reducible refine (Rdown_any z_u.zr z_q.zr 1 (2 * (Q : Int)) (by omega) (by omega) (by omega)).mono ?_
   rintro e v35 ⟨A7, n7, c7, rfl, z7, hb1⟩
   obtain ⟨x_a, x_r, x_p, x_q, x_u, x_v, x_o, z_q, z_u⟩ := mv9 hb1 x_a x_r x_p x_q x_u x_v x_o z_q z_u
   obtain ⟨z_v, z_o, gzL, gzH, z20, z21⟩ := mv6 hb1 z_v z_o gzL gzH z20 z21
   replace hb := bthen hb hb1
   clear hb1
   replace q_q := x_q.al
   replace q_u := x_u.al
   replace q_v := x_v.al
   replace q_o := x_o.al
   rw [HU1.out] at z7 ⊢
   replace z7 := z7.slim B1.out
   go_wp2_with fail
   replace x_a := x_a.aside (b' := (ngB U1)) (A' := A7) (n' := n7) (c' := c7) (g := gu) (by omega)
   replace x_r := x_r.aside (b' := (ngB U1)) (A' := A7) (n' := n7) (c' := c7) (g := gu) (by omega)
   replace x_p := x_p.aside (b' := (ngB U1)) (A' := A7) (n' := n7) (c' := c7) (g := gu) (by omega)
   replace x_q := x_q.aside (b' := (ngB U1)) (A' := A7) (n' := n7) (c' := c7) (g := gu) (by omega)
   replace x_v := x_v.aside (b' := (ngB U1)) (A' := A7) (n' := n7) (c' := c7) (g := gu) (by omega)
   replace x_o := x_o.aside (b' := (ngB U1)) (A' := A7) (n' := n7) (c' := c7) (g := gu) (by omega)
   replace z_q := z_q.put (b' := (ngB U1)) (A' := A7) (n' := n7) (c' := c7) x_u
   replace z_u := z_u.put (b' := (ngB U1)) (A' := A7) (n' := n7) (c' := c7) x_u
   replace z_v := z_v.put (b' := (ngB U1)) (A' := A7) (n' := n7) (c' := c7) x_u
   replace z_o := z_o.put (b' := (ngB U1)) (A' := A7) (n' := n7) (c' := c7) x_u
   replace gzL := gzL.put (b' := (ngB U1)) (A' := A7) (n' := n7) (c' := c7) (by omega) x_u
   replace gzH := gzH.put (b' := (ngB U1)) (A' := A7) (n' := n7) (c' := c7) (by omega) x_u
   replace z20 := z20.put (b' := (ngB U1)) (A' := A7) (n' := n7) (c' := c7) x_u
   replace z21 := z21.put (b' := (ngB U1)) (A' := A7) (n' := n7) (c' := c7) x_u
   replace z7 := z7.put (b' := (ngB U1)) (A' := A7) (n' := n7) (c' := c7) x_u
   replace hb := put_below (g := gu) hb (by omega) (.bool (ngB U1)) (.slice A7 n7 c7)
   replace x_u := x_u.put (ngB U1) A7 n7 c7
   clear q_q q_u q_v q_o
   generalize (v35.setCell ⟨gu, 0, none⟩ (.bool (ngB U1))).setCell ⟨gu, 1, none⟩ (.slice A7 n7 c7) = v36 at *
   have q_q := x_q.al
   have q_u := x_u.al
   have q_v := x_v.al
   have q_o := x_o.al
   with_reducible refine (Rup_any z_v.zr z_q.zr 1 (2 * (Q : Int)) (by omega) (by omega) (by omega)).mono ?_
   rintro e v37 ⟨A8, n8, c8, rfl, z8, hb1⟩
   obtain ⟨x_a, x_r, x_p, x_q, x_u, x_v, x_o, z_q, z_u⟩ := mv9 hb1 x_a x_r x_p x_q x_u x_v x_o z_q z_u
   obtain ⟨z_v, z_o, gzL, gzH, z20, z21, z7⟩ := mv7 hb1 z_v z_o gzL gzH z20 z21 z7
   replace hb := bthen hb hb1
   clear hb1
   replace q_q := x_q.al
   replace q_u := x_u.al
   replace q_v := x_v.al
   replace q_o := x_o.al
   rw [HV1.out] at z8 ⊢
   replace z8 := z8.slim B2.out
   go_wp2_with fail
   replace x_a := x_a.aside (b' := (ngB V1)) (A' := A8) (n' := n8) (c' := c8) (g := gv) (by omega)
   replace x_r := x_r.aside (b' := (ngB V1)) (A' := A8) (n' := n8) (c' := c8) (g := gv) (by omega)
   replace x_p := x_p.aside (b' := (ngB V1)) (A' := A8) (n' := n8) (c' := c8) (g := gv) (by omega)
   replace x_q := x_q.aside (b' := (ngB V1)) (A' := A8) (n' := n8) (c' := c8) (g := gv) (by omega)
   replace x_u := x_u.aside (b' := (ngB V1)) (A' := A8) (n' := n8) (c' := c8) (g := gv) (by omega)
   replace x_o := x_o.aside (b' := (ngB V1)) (A' := A8) (n' := n8) (c' := c8) (g := gv) (by omega)
   replace z_q := z_q.put (b' := (ngB V1)) (A' := A8) (n' := n8) (c' := c8) x_v
   replace z_u := z_u.put (b' := (ngB V1)) (A' := A8) (n' := n8) (c' := c8) x_v
   replace z_v := z_v.put (b' := (ngB V1)) (A' := A8) (n' := n8) (c' := c8) x_v
   replace z_o := z_o.put (b' := (ngB V1)) (A' := A8) (n' := n8) (c' := c8) x_v
   replace gzL := gzL.put (b' := (ngB V1)) (A' := A8) (n' := n8) (c' := c8) (by omega) x_v
   replace gzH := gzH.put (b' := (ngB V1)) (A' := A8) (n' := n8) (c' := c8) (by omega) x_v
   replace z20 := z20.put (b' := (ngB V1)) (A' := A8) (n' := n8) (c' := c8) x_v
   replace z21 := z21.put (b' := (ngB V1)) (A' := A8) (n' := n8) (c' := c8) x_v
   replace z7 := z7.put (b' := (ngB V1)) (A' := A8) (n' := n8) (c' := c8) x_v
   replace z8 := z8.put (b' := (ngB V1)) (A' := A8) (n' := n8) (c' := c8) x_v
   replace hb := put_below (g := gv) hb (by omega) (.bool (ngB V1)) (.slice A8 n8 c8)
   replace x_v := x_v.put (ngB V1) A8 n8 c8
   clear q_q q_u q_v q_o
   generalize (v37.setCell ⟨gv, 0, none⟩ (.bool (ngB V1))).setCell ⟨gv, 1, none⟩ (.slice A8 n8 c8) = v38 at *
   have q_q := x_q.al
   have q_u := x_u.al
   have q_v := x_v.al
   have q_o := x_o.al
   go_roundw
   case rel => exact ⟨k + 1, K1 + 1, by omega, by rw [HKK.out]; omega, rfl, hb, ⟨x_a, x_r, x_p, ⟨_, _, _, x_q, z_q⟩, ⟨_, _, _, x_o, z_o⟩⟩, ⟨_, _, _, by rw [EU.out]; exact x_u, by rw [EU.out]; exact z7⟩, ⟨_, _, _, by rw [EV.out]; exact x_v, by rw [EV.out]; exact z8⟩, by rw [← HLF.out]; exact gzL, by rw [← HLG.out]; exact gzH, hap⟩
   case measure => simp [intOf]; omega

end Go.Proofs.YtiikmjnnlckiiaaGreat
