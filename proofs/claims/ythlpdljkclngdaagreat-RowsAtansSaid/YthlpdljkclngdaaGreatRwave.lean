/-
  the document's answers for rows: wave.
-/
import Derived.Test.YthlpdljkclngdaaGreatRturn
import Derived.Test.YthlpdljkclngdaaGreatKfiv
namespace Go.Proofs.YthlpdljkclngdaaGreat
open Go.RowKit
set_option linter.unusedVariables false

theorem Gr.st {w : World} {g n c n' c' : Nat} {b b' : Bool} {A A' : Option Addr} (x : Bx w g b A n c) : Gr (.slice (some ⟨g, 0, none⟩) 0 0) w ((w.setCell ⟨g, 0, none⟩ (.bool b')).setCell ⟨g, 1, none⟩ (.slice A' n' c')) := by
  have hv := put_below (Below.refl 0 w) (Nat.zero_le g) (.bool b') (.slice A' n' c')
  refine ⟨⟨hv.os, hv.tape, hv.output, hv.size, fun k hk hr => ?_⟩, fun _ _ _ _ h => h.sput x⟩
  have hne : k ≠ g := fun e => hr (by rw [e]; rfl)
  exact (Below.heap_setCell _ _ _ k hne).trans (Below.heap_setCell _ _ _ k hne)
theorem Gz.put {w : World} {B J g n c n' c' : Nat} {s : Value} {l : List Int} {b b' : Bool} {A A' : Option Addr} (h : Gz w B J s l) (hg : g < B) (x : Bx w g b A n c) : Gz ((w.setCell ⟨g, 0, none⟩ (.bool b')).setCell ⟨g, 1, none⟩ (.slice A' n' c')) B J s l :=
  h.gr (Gr.st x) (fun k hk => by
    have e : g = k := by simpa [Value.ownBlock] using hk
    subst e
    exact h.ne (.inl hg))
theorem Gz.els {w : World} {B k : Nat} {s : Value} {f : Nat → Int} (h : Gz w B 20 s ((List.range k).map f)) (hk : 0 < k) : ∃ g cap, s = .slice (some ⟨g, 0, none⟩) k cap ∧ B ≤ g ∧ g < w.heap.size ∧ Els w g k f := by
  obtain ⟨g, cap, h1, h2, h3, h4⟩ := h.at_ (by simpa using hk)
  have e : ((List.range k).map f).length = k := by simp
  refine ⟨g, cap, by rw [h1, e], h2, h3, fun i hi => ?_⟩
  obtain ⟨A, n, c, i1, i2, i3⟩ := h4 i (by rw [e]; exact hi)
  have e2 : ((List.range k).map f)[i]'(by rw [e]; exact hi) = f i := by simp
  rw [e2] at i1 i3
  exact ⟨A, n, c, i1, i2, i3⟩
theorem range_snoc (f : Nat → Int) (k : Nat) : (List.range (k + 1)).map f = (List.range k).map f ++ [f k] := by rw [List.range_succ, List.map_append]; rfl
/-- What the loop that gathers keeps. -/
def WvRel (w : World) (bs : World → Prop) (gu gv : Nat) (U V : Int) (B : Nat) (l m : List Int) (s t : Value) (wr : World) : Prop :=
  Below w.heap.size w wr ∧ bs wr ∧ Bn wr gu U 20 ∧ Bn wr gv V 20 ∧ Gz wr B 20 s l ∧ Gz wr B 20 t m ∧ Ap s t
theorem wv_dn (a E : Int) (Q : Nat) : a / 2 ^ (2 * (Q : Int)).toNat / E = a / (E * (twP Q * twP Q)) := by
  rw [tw_two, Int.ediv_ediv_of_nonneg (Int.le_of_lt (ta_pos Q)), Int.mul_comm E]
theorem wv_up (a E : Int) (Q : Nat) : -(-(-(-a / 2 ^ (2 * (Q : Int)).toNat)) / E) = -(-a / (E * (twP Q * twP Q))) := by
  rw [Int.neg_neg, tw_two, Int.ediv_ediv_of_nonneg (Int.le_of_lt (ta_pos Q)), Int.mul_comm E]
theorem sn_dn (X : Int) (Q k : Nat) : snU X Q k * (X * X) / 2 ^ (2 * (Q : Int)).toNat / (2 * ((k : Int) + 1) * (2 * ((k : Int) + 1) + 1)) = snU X Q (k + 1) := by
  rw [wv_dn, show 2 * ((k : Int) + 1) * (2 * ((k : Int) + 1) + 1) = (2 * (k : Int) + 2) * (2 * k + 3) by grind]; rfl
theorem sn_up (X : Int) (Q k : Nat) : -(-(-(-(snV X Q k * (X * X)) / 2 ^ (2 * (Q : Int)).toNat)) / (2 * ((k : Int) + 1) * (2 * ((k : Int) + 1) + 1))) = snV X Q (k + 1) := by
  rw [wv_up, show 2 * ((k : Int) + 1) * (2 * ((k : Int) + 1) + 1) = (2 * (k : Int) + 2) * (2 * k + 3) by grind]; rfl
theorem cs_dn (X : Int) (Q k : Nat) : csU X Q k * (X * X) / 2 ^ (2 * (Q : Int)).toNat / ((2 * ((k : Int) + 1) - 1) * 2 * ((k : Int) + 1)) = csU X Q (k + 1) := by
  rw [wv_dn, show (2 * ((k : Int) + 1) - 1) * 2 * ((k : Int) + 1) = (2 * (k : Int) + 1) * (2 * k + 2) by grind]; rfl
theorem cs_up (X : Int) (Q k : Nat) : -(-(-(-(csV X Q k * (X * X)) / 2 ^ (2 * (Q : Int)).toNat)) / ((2 * ((k : Int) + 1) - 1) * 2 * ((k : Int) + 1))) = csV X Q (k + 1) := by
  rw [wv_up, show (2 * ((k : Int) + 1) - 1) * 2 * ((k : Int) + 1) = (2 * (k : Int) + 1) * (2 * k + 2) by grind]; rfl
theorem by_bd {K : Int} (h : 1 ≤ K ∧ K ≤ 801) : (1 ≤ (2 * K - 1) * 2 * K ∧ (2 * K - 1) * 2 * K ≤ 10000000) ∧ (1 ≤ 2 * K * (2 * K + 1) ∧ 2 * K * (2 * K + 1) ≤ 10000000) := by
  have a := Int.mul_pos (show 0 < (2 * K - 1) * 2 by omega) (show 0 < K by omega)
  have b := Int.mul_pos (show 0 < 2 * K by omega) (show 0 < 2 * K + 1 by omega)
  have c := Int.mul_le_mul (show (2 * K - 1) * 2 ≤ 3300 by omega) (show K ≤ 850 by omega) (by omega) (by omega)
  have d := Int.mul_le_mul (show 2 * K ≤ 1700 by omega) (show 2 * K + 1 ≤ 1700 by omega) (by omega) (by omega)
  omega
set_option maxRecDepth 100000 in
set_option maxHeartbeats 32000000 in
theorem Rwave_sn {b : Bool} {A A2 : Option Addr} {n c n2 c2 : Nat} {X : Int} {j : Nat} {w : World} (h : Zr w b A n c X j) (Q M : Nat) (z : Zn w A2 n2 c2 (X) 20) (hQ : Q ≤ 1200) (hM : 1 ≤ M ∧ M ≤ 400) (hX : 0 ≤ X ∧ X ≤ 2 * twP Q) (hj : j ≤ 20) :
    Calls Tryz.prog 43 #[.agg #[.bool b, .slice A n c], .agg #[.bool (ngB (X)), .slice A2 n2 c2], .bool true, .int .i64 (Q : Nat), .int .i64 (M : Nat)] w (Ou20 w (rwLo 3 X Q M) (rwHi 3 X Q M) 20) := by
  have hbd : ∀ k, 0 ≤ snU X Q k ∧ snU X Q k ≤ snV X Q k ∧ snV X Q k ≤ 2 * twP Q := fun k => by have := sn_bd hX.1 hX.2 k; omega
  have HU : Hid (∀ k, Si (snU X Q k) 20 ∧ Si (snV X Q k) 20) := Lib.hid fun k => by have := hbd k; exact ⟨si1 hQ (by omega) (by omega), si1 hQ (by omega) (by omega)⟩
  have HF : Hid (∀ k, k ≤ 801 → Si (altI (snU X Q) (snV X Q) k) 20) := Lib.hid fun k hk => si_alt hQ (fun i => by have := hbd i; omega) (fun i => by have := hbd i; omega) (fun i => by have := hbd i; omega) (fun i => by have := hbd i; omega) k (by omega)
  have HG : Hid (∀ k, k ≤ 801 → Si (altI (snV X Q) (snU X Q) k) 20) := Lib.hid fun k hk => si_alt hQ (fun i => by have := hbd i; omega) (fun i => by have := hbd i; omega) (fun i => by have := hbd i; omega) (fun i => by have := hbd i; omega) k (by omega)
  have w8 : IntKind.i64.wrap (2 * (M : Int)) = 2 * M := wrapK (by omega) (by omega)
  have w9 : IntKind.i64.wrap (2 * (M : Int) + 1) = 2 * M + 1 := wrapK (by omega) (by omega)
  have w7 : IntKind.i64.wrap (2 * (Q : Int)) = 2 * Q := wrapK (by omega) (by omega)
  clear hbd hX
  go_enter Tryz.func43, Tryz.ntmps43
  go_upto_region 1 with fail
  have x_a : Bx (w.alloc (.cells #[.bool b, .slice A n c] 24)) (w.heap.size) b A n c := by have := Bx.new w b A n c; simpa using this
  replace x_a := x_a.alloc (.cells #[.bool (ngB X), .slice A2 n2 c2] 24)
  have x_f : Bx ((w.alloc (.cells #[.bool b, .slice A n c] 24)).alloc (.cells #[.bool (ngB X), .slice A2 n2 c2] 24)) (w.heap.size + 1) (ngB X) A2 n2 c2 := by have := Bx.new (w.alloc (.cells #[.bool b, .slice A n c] 24)) (ngB X) A2 n2 c2; simpa using this
  replace x_a := x_a.alloc (.cells #[.bool false, .slice none 0 0] 24)
  replace x_f := x_f.alloc (.cells #[.bool false, .slice none 0 0] 24)
  have x_r : Bx (((w.alloc (.cells #[.bool b, .slice A n c] 24)).alloc (.cells #[.bool (ngB X), .slice A2 n2 c2] 24)).alloc (.cells #[.bool false, .slice none 0 0] 24)) (w.heap.size + 1 + 1) false none 0 0 := by have := Bx.new ((w.alloc (.cells #[.bool b, .slice A n c] 24)).alloc (.cells #[.bool (ngB X), .slice A2 n2 c2] 24)) false none 0 0; simpa using this
  replace x_a := x_a.alloc (.cells #[.bool false, .slice none 0 0] 24)
  replace x_f := x_f.alloc (.cells #[.bool false, .slice none 0 0] 24)
  replace x_r := x_r.alloc (.cells #[.bool false, .slice none 0 0] 24)
  have x_p : Bx ((((w.alloc (.cells #[.bool b, .slice A n c] 24)).alloc (.cells #[.bool (ngB X), .slice A2 n2 c2] 24)).alloc (.cells #[.bool false, .slice none 0 0] 24)).alloc (.cells #[.bool false, .slice none 0 0] 24)) (w.heap.size + 1 + 1 + 1) false none 0 0 := by have := Bx.new (((w.alloc (.cells #[.bool b, .slice A n c] 24)).alloc (.cells #[.bool (ngB X), .slice A2 n2 c2] 24)).alloc (.cells #[.bool false, .slice none 0 0] 24)) false none 0 0; simpa using this
  have hb : Below w.heap.size w ((((w.alloc (.cells #[.bool b, .slice A n c] 24)).alloc (.cells #[.bool (ngB X), .slice A2 n2 c2] 24)).alloc (.cells #[.bool false, .slice none 0 0] 24)).alloc (.cells #[.bool false, .slice none 0 0] 24)) := (Below.alloc (Below.alloc (Below.alloc (Below.alloc (Below.refl w.heap.size w) (by simp) (.cells #[.bool b, .slice A n c] 24)) (by simp) (.cells #[.bool (ngB X), .slice A2 n2 c2] 24)) (by simp; omega) (.cells #[.bool false, .slice none 0 0] 24)) (by simp; omega) (.cells #[.bool false, .slice none 0 0] 24))
  generalize (((w.alloc (.cells #[.bool b, .slice A n c] 24)).alloc (.cells #[.bool (ngB X), .slice A2 n2 c2] 24)).alloc (.cells #[.bool false, .slice none 0 0] 24)).alloc (.cells #[.bool false, .slice none 0 0] 24) = v1 at *
  replace h := h.keep hb
  replace z := z.keep hb
  obtain ⟨q_a0, f_a0, q_a1, f_a1⟩ := x_a.al
  obtain ⟨q_f0, f_f0, q_f1, f_f1⟩ := x_f.al
  obtain ⟨q_r0, f_r0, q_r1, f_r1⟩ := x_r.al
  obtain ⟨q_p0, f_p0, q_p1, f_p1⟩ := x_p.al
  clear q_r0 f_r0 q_r1 f_r1
  clear q_p0 f_p0 q_p1 f_p1
  go_wp2_with fail
  with_reducible refine (RMulZ_any h h 40 (by omega) (by omega)).mono ?_
  rintro e v2 ⟨A5, n5, c5, rfl, z5, hb1⟩
  replace x_a := x_a.keep hb1
  replace x_f := x_f.keep hb1
  replace x_r := x_r.keep hb1
  replace x_p := x_p.keep hb1
  replace h := h.keep hb1
  replace z := z.keep hb1
  replace hb := bthen hb hb1
  clear hb1
  clear q_a0 f_a0 q_a1 f_a1; obtain ⟨q_a0, f_a0, q_a1, f_a1⟩ := x_a.al
  clear q_f0 f_f0 q_f1 f_f1; obtain ⟨q_f0, f_f0, q_f1, f_f1⟩ := x_f.al
  go_upto_region 2 with fail
  have hb1 := below_alloc v2 (.cells #[.bool (ngB (X * X)), .slice A5 n5 c5] 24)
  have l_a_q := x_a.lt
  have l_f_q := x_f.lt
  have l_r_q := x_r.lt
  have l_p_q := x_p.lt
  have x_q := Bx.new v2 (ngB (X * X)) A5 n5 c5
  have e_q : w.heap.size ≤ v2.heap.size := hb.size
  clear q_a0 f_a0 q_a1 f_a1 q_f0 f_f0 q_f1 f_f1
  replace x_a := x_a.keep hb1
  replace x_f := x_f.keep hb1
  replace x_r := x_r.keep hb1
  replace x_p := x_p.keep hb1
  replace h := h.keep hb1
  replace z := z.keep hb1
  replace z5 := z5.keep hb1
  replace hb := bthen hb hb1
  clear hb1
  generalize v2.alloc (.cells #[.bool (ngB (X * X)), .slice A5 n5 c5] 24) = v3 at *
  obtain ⟨q_a0, f_a0, q_a1, f_a1⟩ := x_a.al
  obtain ⟨q_f0, f_f0, q_f1, f_f1⟩ := x_f.al
  obtain ⟨q_q0, f_q0, q_q1, f_q1⟩ := x_q.al
  go_upto_region 3 with fail
  have hb1 := below_alloc v3 (.cells #[.bool (ngB X), .slice A2 n2 c2] 24)
  have l_a_u := x_a.lt
  have l_f_u := x_f.lt
  have l_r_u := x_r.lt
  have l_p_u := x_p.lt
  have l_q_u := x_q.lt
  have x_u := Bx.new v3 (ngB X) A2 n2 c2
  have e_u : w.heap.size ≤ v3.heap.size := hb.size
  clear q_a0 f_a0 q_a1 f_a1 q_f0 f_f0 q_f1 f_f1 q_q0 f_q0 q_q1 f_q1
  replace x_a := x_a.keep hb1
  replace x_f := x_f.keep hb1
  replace x_r := x_r.keep hb1
  replace x_p := x_p.keep hb1
  replace x_q := x_q.keep hb1
  replace h := h.keep hb1
  replace z := z.keep hb1
  replace z5 := z5.keep hb1
  replace hb := bthen hb hb1
  clear hb1
  generalize v3.alloc (.cells #[.bool (ngB X), .slice A2 n2 c2] 24) = v4 at *
  obtain ⟨q_a0, f_a0, q_a1, f_a1⟩ := x_a.al
  obtain ⟨q_f0, f_f0, q_f1, f_f1⟩ := x_f.al
  obtain ⟨q_q0, f_q0, q_q1, f_q1⟩ := x_q.al
  obtain ⟨q_u0, f_u0, q_u1, f_u1⟩ := x_u.al
  go_upto_region 4 with fail
  have hb1 := below_alloc v4 (.cells #[.bool (ngB X), .slice A2 n2 c2] 24)
  have l_a_v := x_a.lt
  have l_f_v := x_f.lt
  have l_r_v := x_r.lt
  have l_p_v := x_p.lt
  have l_q_v := x_q.lt
  have l_u_v := x_u.lt
  have x_v := Bx.new v4 (ngB X) A2 n2 c2
  have e_v : w.heap.size ≤ v4.heap.size := hb.size
  clear q_a0 f_a0 q_a1 f_a1 q_f0 f_f0 q_f1 f_f1 q_q0 f_q0 q_q1 f_q1 q_u0 f_u0 q_u1 f_u1
  replace x_a := x_a.keep hb1
  replace x_f := x_f.keep hb1
  replace x_r := x_r.keep hb1
  replace x_p := x_p.keep hb1
  replace x_q := x_q.keep hb1
  replace x_u := x_u.keep hb1
  replace h := h.keep hb1
  replace z := z.keep hb1
  replace z5 := z5.keep hb1
  replace hb := bthen hb hb1
  clear hb1
  generalize v4.alloc (.cells #[.bool (ngB X), .slice A2 n2 c2] 24) = v5 at *
  obtain ⟨q_a0, f_a0, q_a1, f_a1⟩ := x_a.al
  obtain ⟨q_f0, f_f0, q_f1, f_f1⟩ := x_f.al
  obtain ⟨q_q0, f_q0, q_q1, f_q1⟩ := x_q.al
  obtain ⟨q_u0, f_u0, q_u1, f_u1⟩ := x_u.al
  obtain ⟨q_v0, f_v0, q_v1, f_v1⟩ := x_v.al
  go_wp2_with fail
  have hrel0 : WvRel w (fun wq => Bx wq w.heap.size b A n c ∧ Bx wq (w.heap.size + 1) (ngB X) A2 n2 c2 ∧ Bx wq (w.heap.size + 1 + 1) false none 0 0 ∧ Bx wq (w.heap.size + 1 + 1 + 1) false none 0 0 ∧ Bn wq (v2.heap.size) (X * X) 40) (v3.heap.size) (v4.heap.size) (snU X Q 0) (snV X Q 0) ((v4.heap.size) + 1) ((List.range 0).map (snU X Q)) ((List.range 0).map (snV X Q)) (.slice none 0 0) (.slice none 0 0) v5 := ⟨hb, ⟨x_a, x_f, x_r, x_p, _, _, _, x_q, z5⟩, ⟨_, _, _, by rw [show snU X Q 0 = X from rfl]; exact x_u, by rw [show snU X Q 0 = X from rfl]; exact z⟩, ⟨_, _, _, by rw [show snV X Q 0 = X from rfl]; exact x_v, by rw [show snV X Q 0 = X from rfl]; exact z⟩, Gz.nil _ _ _, Gz.nil _ _ _, Ap.nil _⟩
  clear q_a0 f_a0 q_a1 f_a1 q_f0 f_f0 q_f1 f_f1 q_q0 f_q0 q_q1 f_q1 q_u0 f_u0 q_u1 f_u1 q_v0 f_v0 q_v1 f_v1
  obtain ⟨gq, hgq⟩ : ∃ g, v2.heap.size = g := ⟨_, rfl⟩
  obtain ⟨gu, hgu⟩ : ∃ g, v3.heap.size = g := ⟨_, rfl⟩
  obtain ⟨gv, hgv⟩ : ∃ g, v4.heap.size = g := ⟨_, rfl⟩
  have hgs : w.heap.size + 3 < gq ∧ gq < gu ∧ gu < gv := by have := x_p.lt; omega
  rw [hgq, hgu, hgv] at hrel0
  simp only [hgq, hgu, hgv]
  clear hb x_a x_f x_r x_p x_q x_u x_v z5 h z hgq hgu hgv
  go_loopw [15, 16, 17] (fun sv tv kv wr => ∃ k : Nat, ∃ K1 : Int, k ≤ 2 * M + 1 ∧ K1 = k + 1 ∧ kv = .int .i64 K1 ∧ WvRel w (fun wq => Bx wq w.heap.size b A n c ∧ Bx wq (w.heap.size + 1) (ngB X) A2 n2 c2 ∧ Bx wq (w.heap.size + 1 + 1) false none 0 0 ∧ Bx wq (w.heap.size + 1 + 1 + 1) false none 0 0 ∧ Bn wq gq (X * X) 40) gu gv (snU X Q k) (snV X Q k) (gv + 1) ((List.range k).map (snU X Q)) ((List.range k).map (snV X Q)) sv tv wr) (fun _ _ kv _ => 2 * M + 4 - (intOf kv).toNat)
  case atStart => exact ⟨0, 1, by omega, by omega, rfl, hrel0⟩
  case round =>
    clear hrel0
    obtain ⟨k, K1, hk, hK, rfl, hb, ⟨x_a, x_f, x_r, x_p, Aq, nq, cq, x_q, z_q⟩, ⟨Au, nu, cu, x_u, z_u⟩, ⟨Av, nv, cv, x_v, z_v⟩, gzL, gzH, hap⟩ := hrel
    obtain ⟨U, hU⟩ : ∃ e, snU X Q k = e := ⟨_, rfl⟩
    obtain ⟨V, hV⟩ : ∃ e, snV X Q k = e := ⟨_, rfl⟩
    rw [hU] at x_u z_u; rw [hV] at x_v z_v
    rcases (show k = 2 * M + 1 ∨ k < 2 * M + 1 by omega) with hk2 | hk2
    · obtain ⟨ga, cpa, rfl, hga, hla, hA⟩ := gzL.els (by omega)
      obtain ⟨gb, cpb, rfl, hgb, hlb, hB⟩ := gzH.els (by omega)
      obtain ⟨L0, hL0⟩ : ∃ e, altI (snU X Q) (snV X Q) (k - 1) = e := ⟨_, rfl⟩
      obtain ⟨H0, hH0⟩ : ∃ e, altI (snV X Q) (snU X Q) k = e := ⟨_, rfl⟩
      have HL : Hid (rwLo 3 X Q M = L0) := Lib.hid (by rw [← hL0, hk2]; rfl)
      have HH : Hid (rwHi 3 X Q M = H0) := Lib.hid (by rw [← hH0, hk2]; rfl)
      have HL0 := Lib.hid hL0; have HH0 := Lib.hid hH0; have HK := Lib.hid hK
      have kb : 1 ≤ k ∧ k ≤ 801 ∧ k % 2 = 1 ∧ (2 * (M : Int) + 1 < K1) := by omega
      clear hL0 hH0 hU hV hk2 hK gzL gzH hap
      obtain ⟨q_r0, f_r0, q_r1, f_r1⟩ := x_r.al
      obtain ⟨q_p0, f_p0, q_p1, f_p1⟩ := x_p.al
      go_wp2_with fail
      with_reducible refine (Rturned_any ⟨kb.1, kb.2.1⟩ kb.2.2.1 hla hlb hA hB HF.out HG.out).mono ?_
      rintro e v31 ⟨A8, n8, c8, A9, n9, c9, rfl, z8, z9, hb1⟩
      replace x_a := x_a.keep hb1
      replace x_f := x_f.keep hb1
      replace x_r := x_r.keep hb1
      replace x_p := x_p.keep hb1
      replace x_q := x_q.keep hb1
      replace x_u := x_u.keep hb1
      replace x_v := x_v.keep hb1
      replace z_u := z_u.keep hb1
      replace hb := bthen hb hb1
      clear hb1
      clear q_r0 f_r0 q_r1 f_r1; obtain ⟨q_r0, f_r0, q_r1, f_r1⟩ := x_r.al
      clear q_p0 f_p0 q_p1 f_p1; obtain ⟨q_p0, f_p0, q_p1, f_p1⟩ := x_p.al
      rw [HL0.out] at z8 ⊢; rw [HH0.out] at z9 ⊢
      go_wp2
      replace x_a := x_a.aside (b' := (ngB L0)) (A' := A8) (n' := n8) (c' := c8) (g := w.heap.size + 1 + 1) (by omega)
      replace x_f := x_f.aside (b' := (ngB L0)) (A' := A8) (n' := n8) (c' := c8) (g := w.heap.size + 1 + 1) (by omega)
      replace x_p := x_p.aside (b' := (ngB L0)) (A' := A8) (n' := n8) (c' := c8) (g := w.heap.size + 1 + 1) (by omega)
      replace x_q := x_q.aside (b' := (ngB L0)) (A' := A8) (n' := n8) (c' := c8) (g := w.heap.size + 1 + 1) (by omega)
      replace x_u := x_u.aside (b' := (ngB L0)) (A' := A8) (n' := n8) (c' := c8) (g := w.heap.size + 1 + 1) (by omega)
      replace x_v := x_v.aside (b' := (ngB L0)) (A' := A8) (n' := n8) (c' := c8) (g := w.heap.size + 1 + 1) (by omega)
      replace z_u := z_u.put (b' := (ngB L0)) (A' := A8) (n' := n8) (c' := c8) x_r
      replace z8 := z8.put (b' := (ngB L0)) (A' := A8) (n' := n8) (c' := c8) x_r
      replace z9 := z9.put (b' := (ngB L0)) (A' := A8) (n' := n8) (c' := c8) x_r
      replace hb := put_below (g := w.heap.size + 1 + 1) hb (by omega) (.bool (ngB L0)) (.slice A8 n8 c8)
      replace x_r := x_r.put (ngB L0) A8 n8 c8
      clear q_r0 f_r0 q_r1 f_r1 q_p0 f_p0 q_p1 f_p1
      generalize (v31.setCell ⟨w.heap.size + 1 + 1, 0, none⟩ (.bool (ngB L0))).setCell ⟨w.heap.size + 1 + 1, 1, none⟩ (.slice A8 n8 c8) = v32 at *
      obtain ⟨q_r0, f_r0, q_r1, f_r1⟩ := x_r.al
      obtain ⟨q_p0, f_p0, q_p1, f_p1⟩ := x_p.al
      replace x_a := x_a.aside (b' := (ngB H0)) (A' := A9) (n' := n9) (c' := c9) (g := w.heap.size + 1 + 1 + 1) (by omega)
      replace x_f := x_f.aside (b' := (ngB H0)) (A' := A9) (n' := n9) (c' := c9) (g := w.heap.size + 1 + 1 + 1) (by omega)
      replace x_r := x_r.aside (b' := (ngB H0)) (A' := A9) (n' := n9) (c' := c9) (g := w.heap.size + 1 + 1 + 1) (by omega)
      replace x_q := x_q.aside (b' := (ngB H0)) (A' := A9) (n' := n9) (c' := c9) (g := w.heap.size + 1 + 1 + 1) (by omega)
      replace x_u := x_u.aside (b' := (ngB H0)) (A' := A9) (n' := n9) (c' := c9) (g := w.heap.size + 1 + 1 + 1) (by omega)
      replace x_v := x_v.aside (b' := (ngB H0)) (A' := A9) (n' := n9) (c' := c9) (g := w.heap.size + 1 + 1 + 1) (by omega)
      replace z_u := z_u.put (b' := (ngB H0)) (A' := A9) (n' := n9) (c' := c9) x_p
      replace z8 := z8.put (b' := (ngB H0)) (A' := A9) (n' := n9) (c' := c9) x_p
      replace z9 := z9.put (b' := (ngB H0)) (A' := A9) (n' := n9) (c' := c9) x_p
      replace hb := put_below (g := w.heap.size + 1 + 1 + 1) hb (by omega) (.bool (ngB H0)) (.slice A9 n9 c9)
      replace x_p := x_p.put (ngB H0) A9 n9 c9
      clear q_r0 f_r0 q_r1 f_r1 q_p0 f_p0 q_p1 f_p1
      generalize (v32.setCell ⟨w.heap.size + 1 + 1 + 1, 0, none⟩ (.bool (ngB H0))).setCell ⟨w.heap.size + 1 + 1 + 1, 1, none⟩ (.slice A9 n9 c9) = v33 at *
      obtain ⟨q_r0, f_r0, q_r1, f_r1⟩ := x_r.al
      obtain ⟨q_p0, f_p0, q_p1, f_p1⟩ := x_p.al
      skip
      refine bodyPost_ret (v := .tuple #[.agg #[.bool (ngB L0), .slice A8 n8 c8], .agg #[.bool (ngB H0), .slice A9 n9 c9]]) (by simp [results, Tryz.results43, go_sem, q_r0, q_r1, q_p0, q_p1]) rfl ?_
      exact Ou20.mk HL.out HH.out z8 z9 hb
    · obtain ⟨U1, hU1⟩ : ∃ e, snU X Q (k + 1) = e := ⟨_, rfl⟩
      obtain ⟨V1, hV1⟩ : ∃ e, snV X Q (k + 1) = e := ⟨_, rfl⟩
      obtain ⟨E, hE⟩ : ∃ e, 2 * K1 * (2 * K1 + 1) = e := ⟨_, rfl⟩
      obtain ⟨E9, hE9⟩ : ∃ e, (2 * K1 - 1) * 2 * K1 = e := ⟨_, rfl⟩
      obtain ⟨lf, hlf⟩ : ∃ e, (List.range k).map (snU X Q) = e := ⟨_, rfl⟩
      obtain ⟨lg, hlg⟩ : ∃ e, (List.range k).map (snV X Q) = e := ⟨_, rfl⟩
      have HU1 : Hid (U * (X * X) / 2 ^ (2 * (Q : Int)).toNat / E = U1) := Lib.hid (by rw [← hU, ← hE, hK, ← hU1]; exact sn_dn X Q k)
      have HV1 : Hid (-(-(-(-(V * (X * X)) / 2 ^ (2 * (Q : Int)).toNat)) / E) = V1) := Lib.hid (by rw [← hV, ← hE, hK, ← hV1]; exact sn_up X Q k)
      have B1 : Hid (Si U1 20) := Lib.hid (by rw [← hU1]; exact (HU.out _).1); have B2 : Hid (Si V1 20) := Lib.hid (by rw [← hV1]; exact (HU.out _).2)
      have hbb := by_bd (K := K1) (by omega)
      have hE9b : 1 ≤ E9 ∧ E9 ≤ 10000000 := by rw [← hE9]; exact hbb.1
      have hEb : 1 ≤ E ∧ E ≤ 10000000 := by rw [← hE]; exact hbb.2
      have ll : lf.length ≤ 1000 ∧ lg.length ≤ 1000 := by rw [← hlf, ← hlg]; simp; omega
      have HLF : Hid (lf ++ [U] = (List.range (k + 1)).map (snU X Q)) := Lib.hid (by rw [range_snoc, hlf, hU])
      have HLG : Hid (lg ++ [V] = (List.range (k + 1)).map (snV X Q)) := Lib.hid (by rw [range_snoc, hlg, hV])
      rw [hlf] at gzL; rw [hlg] at gzH
      have kb : 1 ≤ K1 ∧ K1 ≤ 2 * (M : Int) + 1 ∧ K1 ≤ 801 := by omega
      have a1 : IntKind.i64.wrap (2 * K1) = 2 * K1 := wrapK (by omega) (by omega)
      have a2 : IntKind.i64.wrap (2 * K1 - 1) = 2 * K1 - 1 := wrapK (by omega) (by omega)
      have a3 : IntKind.i64.wrap ((2 * K1 - 1) * 2) = (2 * K1 - 1) * 2 := wrapK (by omega) (by omega)
      have a4 : IntKind.i64.wrap ((2 * K1 - 1) * 2 * K1) = E9 := by rw [hE9]; exact wrapK (by omega) (by omega)
      have a5 : IntKind.i64.wrap (2 * K1 + 1) = 2 * K1 + 1 := wrapK (by omega) (by omega)
      have a7 : IntKind.i64.wrap (K1 + 1) = K1 + 1 := wrapK (by omega) (by omega)
      have a6 : IntKind.i64.wrap (2 * K1 * (2 * K1 + 1)) = E := by rw [hE]; exact wrapK (by omega) (by omega)
      have HKK := Lib.hid hK; have EU := Lib.hid hU1; have EV := Lib.hid hV1
      clear hU hV hU1 hV1 hE hE9 hlf hlg hbb hK
      obtain ⟨q_q0, f_q0, q_q1, f_q1⟩ := x_q.al
      obtain ⟨q_u0, f_u0, q_u1, f_u1⟩ := x_u.al
      obtain ⟨q_v0, f_v0, q_v1, f_v1⟩ := x_v.al
      go_upto_region 9 with fail
      have lv := x_v.lt
      go_upto_region 10 with (at_builtin; refine wp_pushG (V := wr) rfl (.tmp 31) (.tmp 33) rfl rfl gzL (by omega) (by omega) z_u rfl ?_; intro sL9 v31 hcut)
      have gzN := hcut.1; have hgr := hcut.2.1; have hnw := hcut.2.2; clear hcut lv
      have hapN := (hap).nw gzH hnw
      replace gzH := gzH.gr hgr hap
      clear hap; have hap := hapN; clear hapN hnw
      replace x_a := x_a.gr hgr (gzL.ne (.inl (by omega)))
      replace x_f := x_f.gr hgr (gzL.ne (.inl (by omega)))
      replace x_r := x_r.gr hgr (gzL.ne (.inl (by omega)))
      replace x_p := x_p.gr hgr (gzL.ne (.inl (by omega)))
      replace x_q := x_q.gr hgr (gzL.ne (.inl (by omega)))
      replace x_u := x_u.gr hgr (gzL.ne (.inl (by omega)))
      replace x_v := x_v.gr hgr (gzL.ne (.inl (by omega)))
      replace z_q := z_q.gr hgr
      replace z_u := z_u.gr hgr
      replace z_v := z_v.gr hgr
      replace hb := Gr.below hb hb.size gzL hgr (by omega)
      clear gzL; have gzL := gzN; clear gzN hgr
      clear q_q0 f_q0 q_q1 f_q1 q_u0 f_u0 q_u1 f_u1 q_v0 f_v0 q_v1 f_v1
      obtain ⟨q_q0, f_q0, q_q1, f_q1⟩ := x_q.al
      obtain ⟨q_u0, f_u0, q_u1, f_u1⟩ := x_u.al
      obtain ⟨q_v0, f_v0, q_v1, f_v1⟩ := x_v.al
      have lv := x_v.lt
      go_upto_region 11 with (at_builtin; refine wp_pushG (V := v31) rfl (.tmp 35) (.tmp 37) rfl rfl gzH (by omega) (by omega) z_v rfl ?_; intro sH9 v32 hcut)
      have gzN := hcut.1; have hgr := hcut.2.1; have hnw := hcut.2.2; clear hcut lv
      have hapN := (hap.symm).nw gzL hnw
      replace gzL := gzL.gr hgr hap.symm
      clear hap; have hap := hapN.symm; clear hapN hnw
      replace x_a := x_a.gr hgr (gzH.ne (.inl (by omega)))
      replace x_f := x_f.gr hgr (gzH.ne (.inl (by omega)))
      replace x_r := x_r.gr hgr (gzH.ne (.inl (by omega)))
      replace x_p := x_p.gr hgr (gzH.ne (.inl (by omega)))
      replace x_q := x_q.gr hgr (gzH.ne (.inl (by omega)))
      replace x_u := x_u.gr hgr (gzH.ne (.inl (by omega)))
      replace x_v := x_v.gr hgr (gzH.ne (.inl (by omega)))
      replace z_q := z_q.gr hgr
      replace z_u := z_u.gr hgr
      replace z_v := z_v.gr hgr
      replace hb := Gr.below hb hb.size gzH hgr (by omega)
      clear gzH; have gzH := gzN; clear gzN hgr
      clear q_q0 f_q0 q_q1 f_q1 q_u0 f_u0 q_u1 f_u1 q_v0 f_v0 q_v1 f_v1
      obtain ⟨q_q0, f_q0, q_q1, f_q1⟩ := x_q.al
      obtain ⟨q_u0, f_u0, q_u1, f_u1⟩ := x_u.al
      obtain ⟨q_v0, f_v0, q_v1, f_v1⟩ := x_v.al
      go_wp2_with fail
      with_reducible refine (Rdown_any z_u.zr z_q.zr E (2 * (Q : Int)) (by omega) (by omega) (by omega)).mono ?_
      rintro e v33 ⟨A7, n7, c7, rfl, z7, hb1⟩
      replace x_a := x_a.keep hb1
      replace x_f := x_f.keep hb1
      replace x_r := x_r.keep hb1
      replace x_p := x_p.keep hb1
      replace x_q := x_q.keep hb1
      replace x_u := x_u.keep hb1
      replace x_v := x_v.keep hb1
      replace z_q := z_q.keep hb1
      replace z_u := z_u.keep hb1
      replace z_v := z_v.keep hb1
      replace gzL := gzL.keep hb1
      replace gzH := gzH.keep hb1
      replace hb := bthen hb hb1
      clear hb1
      clear q_q0 f_q0 q_q1 f_q1; obtain ⟨q_q0, f_q0, q_q1, f_q1⟩ := x_q.al
      clear q_u0 f_u0 q_u1 f_u1; obtain ⟨q_u0, f_u0, q_u1, f_u1⟩ := x_u.al
      clear q_v0 f_v0 q_v1 f_v1; obtain ⟨q_v0, f_v0, q_v1, f_v1⟩ := x_v.al
      rw [HU1.out] at z7 ⊢
      replace z7 := z7.slim B1.out
      go_wp2_with fail
      replace x_a := x_a.aside (b' := (ngB U1)) (A' := A7) (n' := n7) (c' := c7) (g := gu) (by omega)
      replace x_f := x_f.aside (b' := (ngB U1)) (A' := A7) (n' := n7) (c' := c7) (g := gu) (by omega)
      replace x_r := x_r.aside (b' := (ngB U1)) (A' := A7) (n' := n7) (c' := c7) (g := gu) (by omega)
      replace x_p := x_p.aside (b' := (ngB U1)) (A' := A7) (n' := n7) (c' := c7) (g := gu) (by omega)
      replace x_q := x_q.aside (b' := (ngB U1)) (A' := A7) (n' := n7) (c' := c7) (g := gu) (by omega)
      replace x_v := x_v.aside (b' := (ngB U1)) (A' := A7) (n' := n7) (c' := c7) (g := gu) (by omega)
      replace z_q := z_q.put (b' := (ngB U1)) (A' := A7) (n' := n7) (c' := c7) x_u
      replace z_u := z_u.put (b' := (ngB U1)) (A' := A7) (n' := n7) (c' := c7) x_u
      replace z_v := z_v.put (b' := (ngB U1)) (A' := A7) (n' := n7) (c' := c7) x_u
      replace gzL := gzL.put (b' := (ngB U1)) (A' := A7) (n' := n7) (c' := c7) (by omega) x_u
      replace gzH := gzH.put (b' := (ngB U1)) (A' := A7) (n' := n7) (c' := c7) (by omega) x_u
      replace z7 := z7.put (b' := (ngB U1)) (A' := A7) (n' := n7) (c' := c7) x_u
      replace hb := put_below (g := gu) hb (by omega) (.bool (ngB U1)) (.slice A7 n7 c7)
      replace x_u := x_u.put (ngB U1) A7 n7 c7
      clear q_q0 f_q0 q_q1 f_q1 q_u0 f_u0 q_u1 f_u1 q_v0 f_v0 q_v1 f_v1
      generalize (v33.setCell ⟨gu, 0, none⟩ (.bool (ngB U1))).setCell ⟨gu, 1, none⟩ (.slice A7 n7 c7) = v34 at *
      obtain ⟨q_q0, f_q0, q_q1, f_q1⟩ := x_q.al
      obtain ⟨q_u0, f_u0, q_u1, f_u1⟩ := x_u.al
      obtain ⟨q_v0, f_v0, q_v1, f_v1⟩ := x_v.al
      with_reducible refine (Rup_any z_v.zr z_q.zr E (2 * (Q : Int)) (by omega) (by omega) (by omega)).mono ?_
      rintro e v35 ⟨A8, n8, c8, rfl, z8, hb1⟩
      replace x_a := x_a.keep hb1
      replace x_f := x_f.keep hb1
      replace x_r := x_r.keep hb1
      replace x_p := x_p.keep hb1
      replace x_q := x_q.keep hb1
      replace x_u := x_u.keep hb1
      replace x_v := x_v.keep hb1
      replace z_q := z_q.keep hb1
      replace z_u := z_u.keep hb1
      replace z_v := z_v.keep hb1
      replace gzL := gzL.keep hb1
      replace gzH := gzH.keep hb1
      replace z7 := z7.keep hb1
      replace hb := bthen hb hb1
      clear hb1
      clear q_q0 f_q0 q_q1 f_q1; obtain ⟨q_q0, f_q0, q_q1, f_q1⟩ := x_q.al
      clear q_u0 f_u0 q_u1 f_u1; obtain ⟨q_u0, f_u0, q_u1, f_u1⟩ := x_u.al
      clear q_v0 f_v0 q_v1 f_v1; obtain ⟨q_v0, f_v0, q_v1, f_v1⟩ := x_v.al
      rw [HV1.out] at z8 ⊢
      replace z8 := z8.slim B2.out
      go_wp2_with fail
      replace x_a := x_a.aside (b' := (ngB V1)) (A' := A8) (n' := n8) (c' := c8) (g := gv) (by omega)
      replace x_f := x_f.aside (b' := (ngB V1)) (A' := A8) (n' := n8) (c' := c8) (g := gv) (by omega)
      replace x_r := x_r.aside (b' := (ngB V1)) (A' := A8) (n' := n8) (c' := c8) (g := gv) (by omega)
      replace x_p := x_p.aside (b' := (ngB V1)) (A' := A8) (n' := n8) (c' := c8) (g := gv) (by omega)
      replace x_q := x_q.aside (b' := (ngB V1)) (A' := A8) (n' := n8) (c' := c8) (g := gv) (by omega)
      replace x_u := x_u.aside (b' := (ngB V1)) (A' := A8) (n' := n8) (c' := c8) (g := gv) (by omega)
      replace z_q := z_q.put (b' := (ngB V1)) (A' := A8) (n' := n8) (c' := c8) x_v
      replace z_u := z_u.put (b' := (ngB V1)) (A' := A8) (n' := n8) (c' := c8) x_v
      replace z_v := z_v.put (b' := (ngB V1)) (A' := A8) (n' := n8) (c' := c8) x_v
      replace gzL := gzL.put (b' := (ngB V1)) (A' := A8) (n' := n8) (c' := c8) (by omega) x_v
      replace gzH := gzH.put (b' := (ngB V1)) (A' := A8) (n' := n8) (c' := c8) (by omega) x_v
      replace z7 := z7.put (b' := (ngB V1)) (A' := A8) (n' := n8) (c' := c8) x_v
      replace z8 := z8.put (b' := (ngB V1)) (A' := A8) (n' := n8) (c' := c8) x_v
      replace hb := put_below (g := gv) hb (by omega) (.bool (ngB V1)) (.slice A8 n8 c8)
      replace x_v := x_v.put (ngB V1) A8 n8 c8
      clear q_q0 f_q0 q_q1 f_q1 q_u0 f_u0 q_u1 f_u1 q_v0 f_v0 q_v1 f_v1
      generalize (v35.setCell ⟨gv, 0, none⟩ (.bool (ngB V1))).setCell ⟨gv, 1, none⟩ (.slice A8 n8 c8) = v36 at *
      obtain ⟨q_q0, f_q0, q_q1, f_q1⟩ := x_q.al
      obtain ⟨q_u0, f_u0, q_u1, f_u1⟩ := x_u.al
      obtain ⟨q_v0, f_v0, q_v1, f_v1⟩ := x_v.al
      go_roundw
      case rel => exact ⟨k + 1, K1 + 1, by omega, by rw [HKK.out]; omega, rfl, hb, ⟨x_a, x_f, x_r, x_p, _, _, _, x_q, z_q⟩, ⟨_, _, _, by rw [EU.out]; exact x_u, by rw [EU.out]; exact z7⟩, ⟨_, _, _, by rw [EV.out]; exact x_v, by rw [EV.out]; exact z8⟩, by rw [← HLF.out]; exact gzL, by rw [← HLG.out]; exact gzH, hap⟩
      case measure => simp [intOf]; omega

set_option maxRecDepth 100000 in
set_option maxHeartbeats 32000000 in
theorem Rwave_cs {b : Bool} {A A2 : Option Addr} {n c n2 c2 : Nat} {X : Int} {j : Nat} {w : World} (h : Zr w b A n c X j) (Q M : Nat) (z : Zn w A2 n2 c2 (twP Q) 20) (hQ : Q ≤ 1200) (hM : 1 ≤ M ∧ M ≤ 400) (hX : 0 ≤ X ∧ X ≤ 2 * twP Q) (hj : j ≤ 20) :
    Calls Tryz.prog 43 #[.agg #[.bool b, .slice A n c], .agg #[.bool (ngB (twP Q)), .slice A2 n2 c2], .bool false, .int .i64 (Q : Nat), .int .i64 (M : Nat)] w (Ou20 w (rwLo 4 X Q M) (rwHi 4 X Q M) 20) := by
  have hbd : ∀ k, 0 ≤ csU X Q k ∧ csU X Q k ≤ csV X Q k ∧ csV X Q k ≤ 2 * twP Q := fun k => by have := cs_bd hX.1 hX.2 k; omega
  have HU : Hid (∀ k, Si (csU X Q k) 20 ∧ Si (csV X Q k) 20) := Lib.hid fun k => by have := hbd k; exact ⟨si1 hQ (by omega) (by omega), si1 hQ (by omega) (by omega)⟩
  have HF : Hid (∀ k, k ≤ 801 → Si (altI (csU X Q) (csV X Q) k) 20) := Lib.hid fun k hk => si_alt hQ (fun i => by have := hbd i; omega) (fun i => by have := hbd i; omega) (fun i => by have := hbd i; omega) (fun i => by have := hbd i; omega) k (by omega)
  have HG : Hid (∀ k, k ≤ 801 → Si (altI (csV X Q) (csU X Q) k) 20) := Lib.hid fun k hk => si_alt hQ (fun i => by have := hbd i; omega) (fun i => by have := hbd i; omega) (fun i => by have := hbd i; omega) (fun i => by have := hbd i; omega) k (by omega)
  obtain ⟨Fi, hFi⟩ : ∃ e, twP Q = e := ⟨_, rfl⟩
  rw [hFi] at z ⊢
  have HFi := Lib.hid hFi; clear hFi
  have w8 : IntKind.i64.wrap (2 * (M : Int)) = 2 * M := wrapK (by omega) (by omega)
  have w9 : IntKind.i64.wrap (2 * (M : Int) + 1) = 2 * M + 1 := wrapK (by omega) (by omega)
  have w7 : IntKind.i64.wrap (2 * (Q : Int)) = 2 * Q := wrapK (by omega) (by omega)
  clear hbd hX
  go_enter Tryz.func43, Tryz.ntmps43
  go_upto_region 1 with fail
  have x_a : Bx (w.alloc (.cells #[.bool b, .slice A n c] 24)) (w.heap.size) b A n c := by have := Bx.new w b A n c; simpa using this
  replace x_a := x_a.alloc (.cells #[.bool (ngB Fi), .slice A2 n2 c2] 24)
  have x_f : Bx ((w.alloc (.cells #[.bool b, .slice A n c] 24)).alloc (.cells #[.bool (ngB Fi), .slice A2 n2 c2] 24)) (w.heap.size + 1) (ngB Fi) A2 n2 c2 := by have := Bx.new (w.alloc (.cells #[.bool b, .slice A n c] 24)) (ngB Fi) A2 n2 c2; simpa using this
  replace x_a := x_a.alloc (.cells #[.bool false, .slice none 0 0] 24)
  replace x_f := x_f.alloc (.cells #[.bool false, .slice none 0 0] 24)
  have x_r : Bx (((w.alloc (.cells #[.bool b, .slice A n c] 24)).alloc (.cells #[.bool (ngB Fi), .slice A2 n2 c2] 24)).alloc (.cells #[.bool false, .slice none 0 0] 24)) (w.heap.size + 1 + 1) false none 0 0 := by have := Bx.new ((w.alloc (.cells #[.bool b, .slice A n c] 24)).alloc (.cells #[.bool (ngB Fi), .slice A2 n2 c2] 24)) false none 0 0; simpa using this
  replace x_a := x_a.alloc (.cells #[.bool false, .slice none 0 0] 24)
  replace x_f := x_f.alloc (.cells #[.bool false, .slice none 0 0] 24)
  replace x_r := x_r.alloc (.cells #[.bool false, .slice none 0 0] 24)
  have x_p : Bx ((((w.alloc (.cells #[.bool b, .slice A n c] 24)).alloc (.cells #[.bool (ngB Fi), .slice A2 n2 c2] 24)).alloc (.cells #[.bool false, .slice none 0 0] 24)).alloc (.cells #[.bool false, .slice none 0 0] 24)) (w.heap.size + 1 + 1 + 1) false none 0 0 := by have := Bx.new (((w.alloc (.cells #[.bool b, .slice A n c] 24)).alloc (.cells #[.bool (ngB Fi), .slice A2 n2 c2] 24)).alloc (.cells #[.bool false, .slice none 0 0] 24)) false none 0 0; simpa using this
  have hb : Below w.heap.size w ((((w.alloc (.cells #[.bool b, .slice A n c] 24)).alloc (.cells #[.bool (ngB Fi), .slice A2 n2 c2] 24)).alloc (.cells #[.bool false, .slice none 0 0] 24)).alloc (.cells #[.bool false, .slice none 0 0] 24)) := (Below.alloc (Below.alloc (Below.alloc (Below.alloc (Below.refl w.heap.size w) (by simp) (.cells #[.bool b, .slice A n c] 24)) (by simp) (.cells #[.bool (ngB Fi), .slice A2 n2 c2] 24)) (by simp; omega) (.cells #[.bool false, .slice none 0 0] 24)) (by simp; omega) (.cells #[.bool false, .slice none 0 0] 24))
  generalize (((w.alloc (.cells #[.bool b, .slice A n c] 24)).alloc (.cells #[.bool (ngB Fi), .slice A2 n2 c2] 24)).alloc (.cells #[.bool false, .slice none 0 0] 24)).alloc (.cells #[.bool false, .slice none 0 0] 24) = v1 at *
  replace h := h.keep hb
  replace z := z.keep hb
  obtain ⟨q_a0, f_a0, q_a1, f_a1⟩ := x_a.al
  obtain ⟨q_f0, f_f0, q_f1, f_f1⟩ := x_f.al
  obtain ⟨q_r0, f_r0, q_r1, f_r1⟩ := x_r.al
  obtain ⟨q_p0, f_p0, q_p1, f_p1⟩ := x_p.al
  clear q_r0 f_r0 q_r1 f_r1
  clear q_p0 f_p0 q_p1 f_p1
  go_wp2_with fail
  with_reducible refine (RMulZ_any h h 40 (by omega) (by omega)).mono ?_
  rintro e v2 ⟨A5, n5, c5, rfl, z5, hb1⟩
  replace x_a := x_a.keep hb1
  replace x_f := x_f.keep hb1
  replace x_r := x_r.keep hb1
  replace x_p := x_p.keep hb1
  replace h := h.keep hb1
  replace z := z.keep hb1
  replace hb := bthen hb hb1
  clear hb1
  clear q_a0 f_a0 q_a1 f_a1; obtain ⟨q_a0, f_a0, q_a1, f_a1⟩ := x_a.al
  clear q_f0 f_f0 q_f1 f_f1; obtain ⟨q_f0, f_f0, q_f1, f_f1⟩ := x_f.al
  go_upto_region 2 with fail
  have hb1 := below_alloc v2 (.cells #[.bool (ngB (X * X)), .slice A5 n5 c5] 24)
  have l_a_q := x_a.lt
  have l_f_q := x_f.lt
  have l_r_q := x_r.lt
  have l_p_q := x_p.lt
  have x_q := Bx.new v2 (ngB (X * X)) A5 n5 c5
  have e_q : w.heap.size ≤ v2.heap.size := hb.size
  clear q_a0 f_a0 q_a1 f_a1 q_f0 f_f0 q_f1 f_f1
  replace x_a := x_a.keep hb1
  replace x_f := x_f.keep hb1
  replace x_r := x_r.keep hb1
  replace x_p := x_p.keep hb1
  replace h := h.keep hb1
  replace z := z.keep hb1
  replace z5 := z5.keep hb1
  replace hb := bthen hb hb1
  clear hb1
  generalize v2.alloc (.cells #[.bool (ngB (X * X)), .slice A5 n5 c5] 24) = v3 at *
  obtain ⟨q_a0, f_a0, q_a1, f_a1⟩ := x_a.al
  obtain ⟨q_f0, f_f0, q_f1, f_f1⟩ := x_f.al
  obtain ⟨q_q0, f_q0, q_q1, f_q1⟩ := x_q.al
  go_upto_region 3 with fail
  have hb1 := below_alloc v3 (.cells #[.bool (ngB Fi), .slice A2 n2 c2] 24)
  have l_a_u := x_a.lt
  have l_f_u := x_f.lt
  have l_r_u := x_r.lt
  have l_p_u := x_p.lt
  have l_q_u := x_q.lt
  have x_u := Bx.new v3 (ngB Fi) A2 n2 c2
  have e_u : w.heap.size ≤ v3.heap.size := hb.size
  clear q_a0 f_a0 q_a1 f_a1 q_f0 f_f0 q_f1 f_f1 q_q0 f_q0 q_q1 f_q1
  replace x_a := x_a.keep hb1
  replace x_f := x_f.keep hb1
  replace x_r := x_r.keep hb1
  replace x_p := x_p.keep hb1
  replace x_q := x_q.keep hb1
  replace h := h.keep hb1
  replace z := z.keep hb1
  replace z5 := z5.keep hb1
  replace hb := bthen hb hb1
  clear hb1
  generalize v3.alloc (.cells #[.bool (ngB Fi), .slice A2 n2 c2] 24) = v4 at *
  obtain ⟨q_a0, f_a0, q_a1, f_a1⟩ := x_a.al
  obtain ⟨q_f0, f_f0, q_f1, f_f1⟩ := x_f.al
  obtain ⟨q_q0, f_q0, q_q1, f_q1⟩ := x_q.al
  obtain ⟨q_u0, f_u0, q_u1, f_u1⟩ := x_u.al
  go_upto_region 4 with fail
  have hb1 := below_alloc v4 (.cells #[.bool (ngB Fi), .slice A2 n2 c2] 24)
  have l_a_v := x_a.lt
  have l_f_v := x_f.lt
  have l_r_v := x_r.lt
  have l_p_v := x_p.lt
  have l_q_v := x_q.lt
  have l_u_v := x_u.lt
  have x_v := Bx.new v4 (ngB Fi) A2 n2 c2
  have e_v : w.heap.size ≤ v4.heap.size := hb.size
  clear q_a0 f_a0 q_a1 f_a1 q_f0 f_f0 q_f1 f_f1 q_q0 f_q0 q_q1 f_q1 q_u0 f_u0 q_u1 f_u1
  replace x_a := x_a.keep hb1
  replace x_f := x_f.keep hb1
  replace x_r := x_r.keep hb1
  replace x_p := x_p.keep hb1
  replace x_q := x_q.keep hb1
  replace x_u := x_u.keep hb1
  replace h := h.keep hb1
  replace z := z.keep hb1
  replace z5 := z5.keep hb1
  replace hb := bthen hb hb1
  clear hb1
  generalize v4.alloc (.cells #[.bool (ngB Fi), .slice A2 n2 c2] 24) = v5 at *
  obtain ⟨q_a0, f_a0, q_a1, f_a1⟩ := x_a.al
  obtain ⟨q_f0, f_f0, q_f1, f_f1⟩ := x_f.al
  obtain ⟨q_q0, f_q0, q_q1, f_q1⟩ := x_q.al
  obtain ⟨q_u0, f_u0, q_u1, f_u1⟩ := x_u.al
  obtain ⟨q_v0, f_v0, q_v1, f_v1⟩ := x_v.al
  go_wp2_with fail
  have hrel0 : WvRel w (fun wq => Bx wq w.heap.size b A n c ∧ Bx wq (w.heap.size + 1) (ngB Fi) A2 n2 c2 ∧ Bx wq (w.heap.size + 1 + 1) false none 0 0 ∧ Bx wq (w.heap.size + 1 + 1 + 1) false none 0 0 ∧ Bn wq (v2.heap.size) (X * X) 40) (v3.heap.size) (v4.heap.size) (csU X Q 0) (csV X Q 0) ((v4.heap.size) + 1) ((List.range 0).map (csU X Q)) ((List.range 0).map (csV X Q)) (.slice none 0 0) (.slice none 0 0) v5 := ⟨hb, ⟨x_a, x_f, x_r, x_p, _, _, _, x_q, z5⟩, ⟨_, _, _, by rw [show csU X Q 0 = Fi from HFi.out]; exact x_u, by rw [show csU X Q 0 = Fi from HFi.out]; exact z⟩, ⟨_, _, _, by rw [show csV X Q 0 = Fi from HFi.out]; exact x_v, by rw [show csV X Q 0 = Fi from HFi.out]; exact z⟩, Gz.nil _ _ _, Gz.nil _ _ _, Ap.nil _⟩
  clear q_a0 f_a0 q_a1 f_a1 q_f0 f_f0 q_f1 f_f1 q_q0 f_q0 q_q1 f_q1 q_u0 f_u0 q_u1 f_u1 q_v0 f_v0 q_v1 f_v1
  obtain ⟨gq, hgq⟩ : ∃ g, v2.heap.size = g := ⟨_, rfl⟩
  obtain ⟨gu, hgu⟩ : ∃ g, v3.heap.size = g := ⟨_, rfl⟩
  obtain ⟨gv, hgv⟩ : ∃ g, v4.heap.size = g := ⟨_, rfl⟩
  have hgs : w.heap.size + 3 < gq ∧ gq < gu ∧ gu < gv := by have := x_p.lt; omega
  rw [hgq, hgu, hgv] at hrel0
  simp only [hgq, hgu, hgv]
  clear hb x_a x_f x_r x_p x_q x_u x_v z5 h z hgq hgu hgv
  go_loopw [15, 16, 17] (fun sv tv kv wr => ∃ k : Nat, ∃ K1 : Int, k ≤ 2 * M + 1 ∧ K1 = k + 1 ∧ kv = .int .i64 K1 ∧ WvRel w (fun wq => Bx wq w.heap.size b A n c ∧ Bx wq (w.heap.size + 1) (ngB Fi) A2 n2 c2 ∧ Bx wq (w.heap.size + 1 + 1) false none 0 0 ∧ Bx wq (w.heap.size + 1 + 1 + 1) false none 0 0 ∧ Bn wq gq (X * X) 40) gu gv (csU X Q k) (csV X Q k) (gv + 1) ((List.range k).map (csU X Q)) ((List.range k).map (csV X Q)) sv tv wr) (fun _ _ kv _ => 2 * M + 4 - (intOf kv).toNat)
  case atStart => exact ⟨0, 1, by omega, by omega, rfl, hrel0⟩
  case round =>
    clear hrel0
    obtain ⟨k, K1, hk, hK, rfl, hb, ⟨x_a, x_f, x_r, x_p, Aq, nq, cq, x_q, z_q⟩, ⟨Au, nu, cu, x_u, z_u⟩, ⟨Av, nv, cv, x_v, z_v⟩, gzL, gzH, hap⟩ := hrel
    obtain ⟨U, hU⟩ : ∃ e, csU X Q k = e := ⟨_, rfl⟩
    obtain ⟨V, hV⟩ : ∃ e, csV X Q k = e := ⟨_, rfl⟩
    rw [hU] at x_u z_u; rw [hV] at x_v z_v
    rcases (show k = 2 * M + 1 ∨ k < 2 * M + 1 by omega) with hk2 | hk2
    · obtain ⟨ga, cpa, rfl, hga, hla, hA⟩ := gzL.els (by omega)
      obtain ⟨gb, cpb, rfl, hgb, hlb, hB⟩ := gzH.els (by omega)
      obtain ⟨L0, hL0⟩ : ∃ e, altI (csU X Q) (csV X Q) (k - 1) = e := ⟨_, rfl⟩
      obtain ⟨H0, hH0⟩ : ∃ e, altI (csV X Q) (csU X Q) k = e := ⟨_, rfl⟩
      have HL : Hid (rwLo 4 X Q M = L0) := Lib.hid (by rw [← hL0, hk2]; rfl)
      have HH : Hid (rwHi 4 X Q M = H0) := Lib.hid (by rw [← hH0, hk2]; rfl)
      have HL0 := Lib.hid hL0; have HH0 := Lib.hid hH0; have HK := Lib.hid hK
      have kb : 1 ≤ k ∧ k ≤ 801 ∧ k % 2 = 1 ∧ (2 * (M : Int) + 1 < K1) := by omega
      clear hL0 hH0 hU hV hk2 hK gzL gzH hap
      obtain ⟨q_r0, f_r0, q_r1, f_r1⟩ := x_r.al
      obtain ⟨q_p0, f_p0, q_p1, f_p1⟩ := x_p.al
      go_wp2_with fail
      with_reducible refine (Rturned_any ⟨kb.1, kb.2.1⟩ kb.2.2.1 hla hlb hA hB HF.out HG.out).mono ?_
      rintro e v31 ⟨A8, n8, c8, A9, n9, c9, rfl, z8, z9, hb1⟩
      replace x_a := x_a.keep hb1
      replace x_f := x_f.keep hb1
      replace x_r := x_r.keep hb1
      replace x_p := x_p.keep hb1
      replace x_q := x_q.keep hb1
      replace x_u := x_u.keep hb1
      replace x_v := x_v.keep hb1
      replace z_u := z_u.keep hb1
      replace hb := bthen hb hb1
      clear hb1
      clear q_r0 f_r0 q_r1 f_r1; obtain ⟨q_r0, f_r0, q_r1, f_r1⟩ := x_r.al
      clear q_p0 f_p0 q_p1 f_p1; obtain ⟨q_p0, f_p0, q_p1, f_p1⟩ := x_p.al
      rw [HL0.out] at z8 ⊢; rw [HH0.out] at z9 ⊢
      go_wp2
      replace x_a := x_a.aside (b' := (ngB L0)) (A' := A8) (n' := n8) (c' := c8) (g := w.heap.size + 1 + 1) (by omega)
      replace x_f := x_f.aside (b' := (ngB L0)) (A' := A8) (n' := n8) (c' := c8) (g := w.heap.size + 1 + 1) (by omega)
      replace x_p := x_p.aside (b' := (ngB L0)) (A' := A8) (n' := n8) (c' := c8) (g := w.heap.size + 1 + 1) (by omega)
      replace x_q := x_q.aside (b' := (ngB L0)) (A' := A8) (n' := n8) (c' := c8) (g := w.heap.size + 1 + 1) (by omega)
      replace x_u := x_u.aside (b' := (ngB L0)) (A' := A8) (n' := n8) (c' := c8) (g := w.heap.size + 1 + 1) (by omega)
      replace x_v := x_v.aside (b' := (ngB L0)) (A' := A8) (n' := n8) (c' := c8) (g := w.heap.size + 1 + 1) (by omega)
      replace z_u := z_u.put (b' := (ngB L0)) (A' := A8) (n' := n8) (c' := c8) x_r
      replace z8 := z8.put (b' := (ngB L0)) (A' := A8) (n' := n8) (c' := c8) x_r
      replace z9 := z9.put (b' := (ngB L0)) (A' := A8) (n' := n8) (c' := c8) x_r
      replace hb := put_below (g := w.heap.size + 1 + 1) hb (by omega) (.bool (ngB L0)) (.slice A8 n8 c8)
      replace x_r := x_r.put (ngB L0) A8 n8 c8
      clear q_r0 f_r0 q_r1 f_r1 q_p0 f_p0 q_p1 f_p1
      generalize (v31.setCell ⟨w.heap.size + 1 + 1, 0, none⟩ (.bool (ngB L0))).setCell ⟨w.heap.size + 1 + 1, 1, none⟩ (.slice A8 n8 c8) = v32 at *
      obtain ⟨q_r0, f_r0, q_r1, f_r1⟩ := x_r.al
      obtain ⟨q_p0, f_p0, q_p1, f_p1⟩ := x_p.al
      replace x_a := x_a.aside (b' := (ngB H0)) (A' := A9) (n' := n9) (c' := c9) (g := w.heap.size + 1 + 1 + 1) (by omega)
      replace x_f := x_f.aside (b' := (ngB H0)) (A' := A9) (n' := n9) (c' := c9) (g := w.heap.size + 1 + 1 + 1) (by omega)
      replace x_r := x_r.aside (b' := (ngB H0)) (A' := A9) (n' := n9) (c' := c9) (g := w.heap.size + 1 + 1 + 1) (by omega)
      replace x_q := x_q.aside (b' := (ngB H0)) (A' := A9) (n' := n9) (c' := c9) (g := w.heap.size + 1 + 1 + 1) (by omega)
      replace x_u := x_u.aside (b' := (ngB H0)) (A' := A9) (n' := n9) (c' := c9) (g := w.heap.size + 1 + 1 + 1) (by omega)
      replace x_v := x_v.aside (b' := (ngB H0)) (A' := A9) (n' := n9) (c' := c9) (g := w.heap.size + 1 + 1 + 1) (by omega)
      replace z_u := z_u.put (b' := (ngB H0)) (A' := A9) (n' := n9) (c' := c9) x_p
      replace z8 := z8.put (b' := (ngB H0)) (A' := A9) (n' := n9) (c' := c9) x_p
      replace z9 := z9.put (b' := (ngB H0)) (A' := A9) (n' := n9) (c' := c9) x_p
      replace hb := put_below (g := w.heap.size + 1 + 1 + 1) hb (by omega) (.bool (ngB H0)) (.slice A9 n9 c9)
      replace x_p := x_p.put (ngB H0) A9 n9 c9
      clear q_r0 f_r0 q_r1 f_r1 q_p0 f_p0 q_p1 f_p1
      generalize (v32.setCell ⟨w.heap.size + 1 + 1 + 1, 0, none⟩ (.bool (ngB H0))).setCell ⟨w.heap.size + 1 + 1 + 1, 1, none⟩ (.slice A9 n9 c9) = v33 at *
      obtain ⟨q_r0, f_r0, q_r1, f_r1⟩ := x_r.al
      obtain ⟨q_p0, f_p0, q_p1, f_p1⟩ := x_p.al
      skip
      refine bodyPost_ret (v := .tuple #[.agg #[.bool (ngB L0), .slice A8 n8 c8], .agg #[.bool (ngB H0), .slice A9 n9 c9]]) (by simp [results, Tryz.results43, go_sem, q_r0, q_r1, q_p0, q_p1]) rfl ?_
      exact Ou20.mk HL.out HH.out z8 z9 hb
    · obtain ⟨U1, hU1⟩ : ∃ e, csU X Q (k + 1) = e := ⟨_, rfl⟩
      obtain ⟨V1, hV1⟩ : ∃ e, csV X Q (k + 1) = e := ⟨_, rfl⟩
      obtain ⟨E, hE⟩ : ∃ e, (2 * K1 - 1) * 2 * K1 = e := ⟨_, rfl⟩
      obtain ⟨E9, hE9⟩ : ∃ e, (2 * K1 - 1) * 2 * K1 = e := ⟨_, rfl⟩
      obtain ⟨lf, hlf⟩ : ∃ e, (List.range k).map (csU X Q) = e := ⟨_, rfl⟩
      obtain ⟨lg, hlg⟩ : ∃ e, (List.range k).map (csV X Q) = e := ⟨_, rfl⟩
      have HU1 : Hid (U * (X * X) / 2 ^ (2 * (Q : Int)).toNat / E = U1) := Lib.hid (by rw [← hU, ← hE, hK, ← hU1]; exact cs_dn X Q k)
      have HV1 : Hid (-(-(-(-(V * (X * X)) / 2 ^ (2 * (Q : Int)).toNat)) / E) = V1) := Lib.hid (by rw [← hV, ← hE, hK, ← hV1]; exact cs_up X Q k)
      have B1 : Hid (Si U1 20) := Lib.hid (by rw [← hU1]; exact (HU.out _).1); have B2 : Hid (Si V1 20) := Lib.hid (by rw [← hV1]; exact (HU.out _).2)
      have hbb := by_bd (K := K1) (by omega)
      have hE9b : 1 ≤ E9 ∧ E9 ≤ 10000000 := by rw [← hE9]; exact hbb.1
      have hEb : 1 ≤ E ∧ E ≤ 10000000 := by rw [← hE]; exact hbb.1
      have ll : lf.length ≤ 1000 ∧ lg.length ≤ 1000 := by rw [← hlf, ← hlg]; simp; omega
      have HLF : Hid (lf ++ [U] = (List.range (k + 1)).map (csU X Q)) := Lib.hid (by rw [range_snoc, hlf, hU])
      have HLG : Hid (lg ++ [V] = (List.range (k + 1)).map (csV X Q)) := Lib.hid (by rw [range_snoc, hlg, hV])
      rw [hlf] at gzL; rw [hlg] at gzH
      have kb : 1 ≤ K1 ∧ K1 ≤ 2 * (M : Int) + 1 ∧ K1 ≤ 801 := by omega
      have a1 : IntKind.i64.wrap (2 * K1) = 2 * K1 := wrapK (by omega) (by omega)
      have a2 : IntKind.i64.wrap (2 * K1 - 1) = 2 * K1 - 1 := wrapK (by omega) (by omega)
      have a3 : IntKind.i64.wrap ((2 * K1 - 1) * 2) = (2 * K1 - 1) * 2 := wrapK (by omega) (by omega)
      have a4 : IntKind.i64.wrap ((2 * K1 - 1) * 2 * K1) = E9 := by rw [hE9]; exact wrapK (by omega) (by omega)
      have a5 : IntKind.i64.wrap (2 * K1 + 1) = 2 * K1 + 1 := wrapK (by omega) (by omega)
      have a7 : IntKind.i64.wrap (K1 + 1) = K1 + 1 := wrapK (by omega) (by omega)
      have hEE : E9 = E := hE9.symm.trans hE
      subst hEE
      have HKK := Lib.hid hK; have EU := Lib.hid hU1; have EV := Lib.hid hV1
      clear hU hV hU1 hV1 hE hE9 hlf hlg hbb hK
      obtain ⟨q_q0, f_q0, q_q1, f_q1⟩ := x_q.al
      obtain ⟨q_u0, f_u0, q_u1, f_u1⟩ := x_u.al
      obtain ⟨q_v0, f_v0, q_v1, f_v1⟩ := x_v.al
      go_upto_region 9 with fail
      have lv := x_v.lt
      go_upto_region 10 with (at_builtin; refine wp_pushG (V := wr) rfl (.tmp 31) (.tmp 33) rfl rfl gzL (by omega) (by omega) z_u rfl ?_; intro sL9 v31 hcut)
      have gzN := hcut.1; have hgr := hcut.2.1; have hnw := hcut.2.2; clear hcut lv
      have hapN := (hap).nw gzH hnw
      replace gzH := gzH.gr hgr hap
      clear hap; have hap := hapN; clear hapN hnw
      replace x_a := x_a.gr hgr (gzL.ne (.inl (by omega)))
      replace x_f := x_f.gr hgr (gzL.ne (.inl (by omega)))
      replace x_r := x_r.gr hgr (gzL.ne (.inl (by omega)))
      replace x_p := x_p.gr hgr (gzL.ne (.inl (by omega)))
      replace x_q := x_q.gr hgr (gzL.ne (.inl (by omega)))
      replace x_u := x_u.gr hgr (gzL.ne (.inl (by omega)))
      replace x_v := x_v.gr hgr (gzL.ne (.inl (by omega)))
      replace z_q := z_q.gr hgr
      replace z_u := z_u.gr hgr
      replace z_v := z_v.gr hgr
      replace hb := Gr.below hb hb.size gzL hgr (by omega)
      clear gzL; have gzL := gzN; clear gzN hgr
      clear q_q0 f_q0 q_q1 f_q1 q_u0 f_u0 q_u1 f_u1 q_v0 f_v0 q_v1 f_v1
      obtain ⟨q_q0, f_q0, q_q1, f_q1⟩ := x_q.al
      obtain ⟨q_u0, f_u0, q_u1, f_u1⟩ := x_u.al
      obtain ⟨q_v0, f_v0, q_v1, f_v1⟩ := x_v.al
      have lv := x_v.lt
      go_upto_region 11 with (at_builtin; refine wp_pushG (V := v31) rfl (.tmp 35) (.tmp 37) rfl rfl gzH (by omega) (by omega) z_v rfl ?_; intro sH9 v32 hcut)
      have gzN := hcut.1; have hgr := hcut.2.1; have hnw := hcut.2.2; clear hcut lv
      have hapN := (hap.symm).nw gzL hnw
      replace gzL := gzL.gr hgr hap.symm
      clear hap; have hap := hapN.symm; clear hapN hnw
      replace x_a := x_a.gr hgr (gzH.ne (.inl (by omega)))
      replace x_f := x_f.gr hgr (gzH.ne (.inl (by omega)))
      replace x_r := x_r.gr hgr (gzH.ne (.inl (by omega)))
      replace x_p := x_p.gr hgr (gzH.ne (.inl (by omega)))
      replace x_q := x_q.gr hgr (gzH.ne (.inl (by omega)))
      replace x_u := x_u.gr hgr (gzH.ne (.inl (by omega)))
      replace x_v := x_v.gr hgr (gzH.ne (.inl (by omega)))
      replace z_q := z_q.gr hgr
      replace z_u := z_u.gr hgr
      replace z_v := z_v.gr hgr
      replace hb := Gr.below hb hb.size gzH hgr (by omega)
      clear gzH; have gzH := gzN; clear gzN hgr
      clear q_q0 f_q0 q_q1 f_q1 q_u0 f_u0 q_u1 f_u1 q_v0 f_v0 q_v1 f_v1
      obtain ⟨q_q0, f_q0, q_q1, f_q1⟩ := x_q.al
      obtain ⟨q_u0, f_u0, q_u1, f_u1⟩ := x_u.al
      obtain ⟨q_v0, f_v0, q_v1, f_v1⟩ := x_v.al
      go_wp2_with fail
      with_reducible refine (Rdown_any z_u.zr z_q.zr E9 (2 * (Q : Int)) (by omega) (by omega) (by omega)).mono ?_
      rintro e v33 ⟨A7, n7, c7, rfl, z7, hb1⟩
      replace x_a := x_a.keep hb1
      replace x_f := x_f.keep hb1
      replace x_r := x_r.keep hb1
      replace x_p := x_p.keep hb1
      replace x_q := x_q.keep hb1
      replace x_u := x_u.keep hb1
      replace x_v := x_v.keep hb1
      replace z_q := z_q.keep hb1
      replace z_u := z_u.keep hb1
      replace z_v := z_v.keep hb1
      replace gzL := gzL.keep hb1
      replace gzH := gzH.keep hb1
      replace hb := bthen hb hb1
      clear hb1
      clear q_q0 f_q0 q_q1 f_q1; obtain ⟨q_q0, f_q0, q_q1, f_q1⟩ := x_q.al
      clear q_u0 f_u0 q_u1 f_u1; obtain ⟨q_u0, f_u0, q_u1, f_u1⟩ := x_u.al
      clear q_v0 f_v0 q_v1 f_v1; obtain ⟨q_v0, f_v0, q_v1, f_v1⟩ := x_v.al
      rw [HU1.out] at z7 ⊢
      replace z7 := z7.slim B1.out
      go_wp2_with fail
      replace x_a := x_a.aside (b' := (ngB U1)) (A' := A7) (n' := n7) (c' := c7) (g := gu) (by omega)
      replace x_f := x_f.aside (b' := (ngB U1)) (A' := A7) (n' := n7) (c' := c7) (g := gu) (by omega)
      replace x_r := x_r.aside (b' := (ngB U1)) (A' := A7) (n' := n7) (c' := c7) (g := gu) (by omega)
      replace x_p := x_p.aside (b' := (ngB U1)) (A' := A7) (n' := n7) (c' := c7) (g := gu) (by omega)
      replace x_q := x_q.aside (b' := (ngB U1)) (A' := A7) (n' := n7) (c' := c7) (g := gu) (by omega)
      replace x_v := x_v.aside (b' := (ngB U1)) (A' := A7) (n' := n7) (c' := c7) (g := gu) (by omega)
      replace z_q := z_q.put (b' := (ngB U1)) (A' := A7) (n' := n7) (c' := c7) x_u
      replace z_u := z_u.put (b' := (ngB U1)) (A' := A7) (n' := n7) (c' := c7) x_u
      replace z_v := z_v.put (b' := (ngB U1)) (A' := A7) (n' := n7) (c' := c7) x_u
      replace gzL := gzL.put (b' := (ngB U1)) (A' := A7) (n' := n7) (c' := c7) (by omega) x_u
      replace gzH := gzH.put (b' := (ngB U1)) (A' := A7) (n' := n7) (c' := c7) (by omega) x_u
      replace z7 := z7.put (b' := (ngB U1)) (A' := A7) (n' := n7) (c' := c7) x_u
      replace hb := put_below (g := gu) hb (by omega) (.bool (ngB U1)) (.slice A7 n7 c7)
      replace x_u := x_u.put (ngB U1) A7 n7 c7
      clear q_q0 f_q0 q_q1 f_q1 q_u0 f_u0 q_u1 f_u1 q_v0 f_v0 q_v1 f_v1
      generalize (v33.setCell ⟨gu, 0, none⟩ (.bool (ngB U1))).setCell ⟨gu, 1, none⟩ (.slice A7 n7 c7) = v34 at *
      obtain ⟨q_q0, f_q0, q_q1, f_q1⟩ := x_q.al
      obtain ⟨q_u0, f_u0, q_u1, f_u1⟩ := x_u.al
      obtain ⟨q_v0, f_v0, q_v1, f_v1⟩ := x_v.al
      with_reducible refine (Rup_any z_v.zr z_q.zr E9 (2 * (Q : Int)) (by omega) (by omega) (by omega)).mono ?_
      rintro e v35 ⟨A8, n8, c8, rfl, z8, hb1⟩
      replace x_a := x_a.keep hb1
      replace x_f := x_f.keep hb1
      replace x_r := x_r.keep hb1
      replace x_p := x_p.keep hb1
      replace x_q := x_q.keep hb1
      replace x_u := x_u.keep hb1
      replace x_v := x_v.keep hb1
      replace z_q := z_q.keep hb1
      replace z_u := z_u.keep hb1
      replace z_v := z_v.keep hb1
      replace gzL := gzL.keep hb1
      replace gzH := gzH.keep hb1
      replace z7 := z7.keep hb1
      replace hb := bthen hb hb1
      clear hb1
      clear q_q0 f_q0 q_q1 f_q1; obtain ⟨q_q0, f_q0, q_q1, f_q1⟩ := x_q.al
      clear q_u0 f_u0 q_u1 f_u1; obtain ⟨q_u0, f_u0, q_u1, f_u1⟩ := x_u.al
      clear q_v0 f_v0 q_v1 f_v1; obtain ⟨q_v0, f_v0, q_v1, f_v1⟩ := x_v.al
      rw [HV1.out] at z8 ⊢
      replace z8 := z8.slim B2.out
      go_wp2_with fail
      replace x_a := x_a.aside (b' := (ngB V1)) (A' := A8) (n' := n8) (c' := c8) (g := gv) (by omega)
      replace x_f := x_f.aside (b' := (ngB V1)) (A' := A8) (n' := n8) (c' := c8) (g := gv) (by omega)
      replace x_r := x_r.aside (b' := (ngB V1)) (A' := A8) (n' := n8) (c' := c8) (g := gv) (by omega)
      replace x_p := x_p.aside (b' := (ngB V1)) (A' := A8) (n' := n8) (c' := c8) (g := gv) (by omega)
      replace x_q := x_q.aside (b' := (ngB V1)) (A' := A8) (n' := n8) (c' := c8) (g := gv) (by omega)
      replace x_u := x_u.aside (b' := (ngB V1)) (A' := A8) (n' := n8) (c' := c8) (g := gv) (by omega)
      replace z_q := z_q.put (b' := (ngB V1)) (A' := A8) (n' := n8) (c' := c8) x_v
      replace z_u := z_u.put (b' := (ngB V1)) (A' := A8) (n' := n8) (c' := c8) x_v
      replace z_v := z_v.put (b' := (ngB V1)) (A' := A8) (n' := n8) (c' := c8) x_v
      replace gzL := gzL.put (b' := (ngB V1)) (A' := A8) (n' := n8) (c' := c8) (by omega) x_v
      replace gzH := gzH.put (b' := (ngB V1)) (A' := A8) (n' := n8) (c' := c8) (by omega) x_v
      replace z7 := z7.put (b' := (ngB V1)) (A' := A8) (n' := n8) (c' := c8) x_v
      replace z8 := z8.put (b' := (ngB V1)) (A' := A8) (n' := n8) (c' := c8) x_v
      replace hb := put_below (g := gv) hb (by omega) (.bool (ngB V1)) (.slice A8 n8 c8)
      replace x_v := x_v.put (ngB V1) A8 n8 c8
      clear q_q0 f_q0 q_q1 f_q1 q_u0 f_u0 q_u1 f_u1 q_v0 f_v0 q_v1 f_v1
      generalize (v35.setCell ⟨gv, 0, none⟩ (.bool (ngB V1))).setCell ⟨gv, 1, none⟩ (.slice A8 n8 c8) = v36 at *
      obtain ⟨q_q0, f_q0, q_q1, f_q1⟩ := x_q.al
      obtain ⟨q_u0, f_u0, q_u1, f_u1⟩ := x_u.al
      obtain ⟨q_v0, f_v0, q_v1, f_v1⟩ := x_v.al
      go_roundw
      case rel => exact ⟨k + 1, K1 + 1, by omega, by rw [HKK.out]; omega, rfl, hb, ⟨x_a, x_f, x_r, x_p, _, _, _, x_q, z_q⟩, ⟨_, _, _, by rw [EU.out]; exact x_u, by rw [EU.out]; exact z7⟩, ⟨_, _, _, by rw [EV.out]; exact x_v, by rw [EV.out]; exact z8⟩, by rw [← HLF.out]; exact gzL, by rw [← HLG.out]; exact gzH, hap⟩
      case measure => simp [intOf]; omega

end Go.Proofs.YthlpdljkclngdaaGreat
