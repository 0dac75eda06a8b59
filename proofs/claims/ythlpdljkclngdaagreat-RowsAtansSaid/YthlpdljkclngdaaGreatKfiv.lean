/-
  rows: the five functions: numbers, errors.
-/
import Derived.Test.YthlpdljkclngdaaGreatKall
import Derived.Test.YthlpdljkclngdaaGreatKalt
import Derived.Test.YthlpdljkclngdaaGreatKodp
namespace Go.Proofs.YthlpdljkclngdaaGreat
open Go.RowKit
set_option linter.unusedVariables false

theorem Zr.upK {w : World} {b : Bool} {A : Option Addr} {n c j k : Nat} {X : Int} (h : Zr w b A n c X j) (hk : j ≤ k) : Zr w b A n c X k := by
  obtain ⟨l, h1, h2, h3⟩ := h
  exact ⟨l, h1, h2, Nat.le_trans h3 hk⟩
theorem tw_sc {Q : Nat} (hQ : Q ≤ 1200) : (2 : Int) ^ sc (Q : Int) = twP Q := by rw [show sc (Q : Int) = Q by unfold sc; omega]; rfl
theorem tw_sc2 {Q : Nat} (hQ : Q ≤ 1200) : (2 : Int) ^ sc (2 * (Q : Int)) = twP Q * twP Q := by rw [show sc (2 * (Q : Int)) = Q + Q by unfold sc; omega, Int.pow_add]; rfl
theorem ok_yes {X : Int} {Q M : Nat} {d : Int} (hQ : Q ≤ 1200) (hM : 1 ≤ M ∧ M ≤ 400) (hX : 0 ≤ X ∧ 2 * X ≤ d * twP Q) : okB X Q M d = true := by
  unfold okB
  rw [tw_sc hQ]
  simp; omega
theorem ok_is {X q m d : Int} (h : okB X q m d = true) : ∃ Q M : Nat, q = Q ∧ m = M ∧ Q ≤ 1200 ∧ 1 ≤ M ∧ M ≤ 400 ∧ 0 ≤ X ∧ 2 * X ≤ d * twP Q := by
  unfold okB at h
  simp at h
  obtain ⟨⟨h1, h2, h3, h4, h5⟩, h6⟩ := h
  obtain ⟨Q, rfl⟩ := Int.eq_ofNat_of_zero_le h1
  obtain ⟨M, rfl⟩ := Int.eq_ofNat_of_zero_le (show 0 ≤ m by omega)
  rw [tw_sc (by omega)] at h6
  exact ⟨Q, M, rfl, rfl, by omega, by omega, by omega, h5, h6⟩
section
variable {t : Int} {q : Nat}
theorem si1 {x : Int} {q : Nat} (hq : q ≤ 1200) (h0 : 0 ≤ x) (h : x ≤ 2 * twP q) : Si x 20 := si_tw (K := 2) (by omega) hq (by omega) (by have := tw_pos q; omega)
theorem si_sum {f : Nat → Int} {q : Nat} (hq : q ≤ 1200) (h0 : ∀ k, 0 ≤ f k) (h : ∀ k, f k ≤ twP q) (n : Nat) (hn : n ≤ 2000) : Si (sumI f n) 20 := by
  have b := sum_bd h0 h n
  refine si_tw (K := n) hn hq b.2 ?_
  have := Int.mul_nonneg (show (0 : Int) ≤ n by omega) (Int.le_of_lt (tw_pos q)); omega
theorem si_alt {f g : Nat → Int} {q : Nat} (hq : q ≤ 1200) (h0 : ∀ k, 0 ≤ f k) (h : ∀ k, f k ≤ 2 * twP q) (h1 : ∀ k, 0 ≤ g k) (h2 : ∀ k, g k ≤ 2 * twP q) (n : Nat) (hn : n ≤ 1000) : Si (altI f g n) 20 := by
  have b := alt_bd h0 h h1 h2 n
  have e : (n : Int) * (2 * twP q) = (2 * n : Nat) * twP q := by push_cast; grind
  rw [e] at b
  exact si_tw (K := 2 * n) (by omega) hq b.2 b.1
end
theorem dv_Exp {gq Q : Nat} (hQ : Q ≤ 1200) : Dv (gq + 1) 25 #[.pointer (some ⟨gq, 0, none⟩)] (fun w _ => Cx w gq (.int .i64 (Q : Nat)) 3) (fun k => ((k : Int) + 1) * twP Q) :=
  ⟨ent_Exp, fun w k hk hg => by
    have h := KExpD_any (k := (k : Int) + 1) (q := (Q : Int)) hg.1 ⟨by omega, by omega⟩ ⟨by omega, by omega⟩
    have e : ((k : Int) + 1) * 2 ^ sc ((Q : Int)) = ((k : Int) + 1) * twP Q := by rw [tw_sc hQ]
    rw [e] at h
    exact h⟩
theorem dv_Sin {gq Q : Nat} (hQ : Q ≤ 1200) : Dv (gq + 1) 42 #[.pointer (some ⟨gq, 0, none⟩)] (fun w _ => Cx w gq (.int .i64 (Q : Nat)) 3) (fun k => (2 * (k : Int) + 2) * (2 * k + 3) * (twP Q * twP Q)) :=
  ⟨ent_Sin, fun w k hk hg => by
    have h := KSinD_any (k := (k : Int) + 1) (q := (Q : Int)) hg.1 ⟨by omega, by omega⟩ ⟨by omega, by omega⟩
    have e : (2 * ((k : Int) + 1) * (2 * ((k : Int) + 1) + 1)) * 2 ^ sc (2 * (Q : Int)) = (2 * (k : Int) + 2) * (2 * k + 3) * (twP Q * twP Q) := by rw [tw_sc2 hQ]; grind
    rw [e] at h
    exact h⟩
theorem dv_Cos {gq Q : Nat} (hQ : Q ≤ 1200) : Dv (gq + 1) 44 #[.pointer (some ⟨gq, 0, none⟩)] (fun w _ => Cx w gq (.int .i64 (Q : Nat)) 3) (fun k => (2 * (k : Int) + 1) * (2 * k + 2) * (twP Q * twP Q)) :=
  ⟨ent_Cos, fun w k hk hg => by
    have h := KCosD_any (k := (k : Int) + 1) (q := (Q : Int)) hg.1 ⟨by omega, by omega⟩ ⟨by omega, by omega⟩
    have e : ((2 * ((k : Int) + 1) - 1) * 2 * ((k : Int) + 1)) * 2 ^ sc (2 * (Q : Int)) = (2 * (k : Int) + 1) * (2 * k + 2) * (twP Q * twP Q) := by rw [tw_sc2 hQ]; grind
    rw [e] at h
    exact h⟩
theorem gs_q {gq Q : Nat} {w : World} (x : Cx w gq (.int .i64 (Q : Nat)) 3) : Gs (gq + 1) (fun w _ => Cx w gq (.int .i64 (Q : Nat)) 3) w 0 :=
  ⟨x, x.lt, fun v v' j h hf => h.via hf (by omega)⟩
theorem Kterms_Exp {b b2 : Bool} {A A2 : Option Addr} {n c n2 c2 gq Q : Nat} {X : Int} {w : World} (h : Zr w b A n c (twP Q) 20) (h2 : Zr w b2 A2 n2 c2 (X) 40) (hQ : Q ≤ 1200) (hg : Gs (gq + 1) (fun w _ => Cx w gq (.int .i64 (Q : Nat)) 3) w 0) (N : Nat) (HU : ∀ k, Si (exU X Q k) 20 ∧ Si (exV X Q k) 20) (hN : N ≤ 1000) :
    Calls Tryz.prog 23 #[.agg #[.bool b, .slice A n c], .agg #[.bool b2, .slice A2 n2 c2], .func (.func 25) #[] #[.pointer (some ⟨gq, 0, none⟩)]] w (GNew (exU X Q) (exV X Q) N w) :=
  Kterms_any h h2 (dv_Exp hQ) hg N (ex_pos Q) HU hN
theorem Kterms_Sin {b b2 : Bool} {A A2 : Option Addr} {n c n2 c2 gq Q : Nat} {X : Int} {w : World} (h : Zr w b A n c (X) 20) (h2 : Zr w b2 A2 n2 c2 (X * X) 40) (hQ : Q ≤ 1200) (hg : Gs (gq + 1) (fun w _ => Cx w gq (.int .i64 (Q : Nat)) 3) w 0) (N : Nat) (HU : ∀ k, Si (snU X Q k) 20 ∧ Si (snV X Q k) 20) (hN : N ≤ 1000) :
    Calls Tryz.prog 23 #[.agg #[.bool b, .slice A n c], .agg #[.bool b2, .slice A2 n2 c2], .func (.func 42) #[] #[.pointer (some ⟨gq, 0, none⟩)]] w (GNew (snU X Q) (snV X Q) N w) :=
  Kterms_any h h2 (dv_Sin hQ) hg N (sn_pos Q) HU hN
theorem Kterms_Cos {b b2 : Bool} {A A2 : Option Addr} {n c n2 c2 gq Q : Nat} {X : Int} {w : World} (h : Zr w b A n c (twP Q) 20) (h2 : Zr w b2 A2 n2 c2 (X * X) 40) (hQ : Q ≤ 1200) (hg : Gs (gq + 1) (fun w _ => Cx w gq (.int .i64 (Q : Nat)) 3) w 0) (N : Nat) (HU : ∀ k, Si (csU X Q k) 20 ∧ Si (csV X Q k) 20) (hN : N ≤ 1000) :
    Calls Tryz.prog 23 #[.agg #[.bool b, .slice A n c], .agg #[.bool b2, .slice A2 n2 c2], .func (.func 44) #[] #[.pointer (some ⟨gq, 0, none⟩)]] w (GNew (csU X Q) (csV X Q) N w) :=
  Kterms_any h h2 (dv_Cos hQ) hg N (cs_pos Q) HU hN
set_option maxRecDepth 100000 in
set_option maxHeartbeats 4000000 in
theorem KExp_no {b : Bool} {A : Option Addr} {n c : Nat} {X : Int} {j : Nat} {w : World} (h : Zr w b A n c X j) (q m : Int) (k : Nat) (hv : okB X q m 2 = false) (hj : j ≤ 1000) :
    Calls Tryz.prog 9 #[.agg #[.bool b, .slice A n c], .int .i64 q, .int .i64 m] w (Ou2 w 0 0 1 k) := by
  have HMY := Lib.hid hv; clear hv
  go_enter Tryz.func9, Tryz.ntmps9
  go_upto_region 1 with fail
  have x_a : Bx (w.alloc (.cells #[.bool b, .slice A n c] 24)) (w.heap.size) b A n c := by have := Bx.new w b A n c; simpa using this
  replace x_a := x_a.alloc (.cells #[.int .i64 q] 3)
  have x_q : Cx ((w.alloc (.cells #[.bool b, .slice A n c] 24)).alloc (.cells #[.int .i64 q] 3)) (w.heap.size + 1) (.int .i64 q) (3) := by have := Cx.new (w.alloc (.cells #[.bool b, .slice A n c] 24)) (.int .i64 q) (3); simpa using this
  replace x_a := x_a.alloc (.cells #[.bool false, .slice none 0 0] 24)
  replace x_q := x_q.alloc (.cells #[.bool false, .slice none 0 0] 24)
  have x_r : Bx (((w.alloc (.cells #[.bool b, .slice A n c] 24)).alloc (.cells #[.int .i64 q] 3)).alloc (.cells #[.bool false, .slice none 0 0] 24)) (w.heap.size + 1 + 1) false none 0 0 := by have := Bx.new ((w.alloc (.cells #[.bool b, .slice A n c] 24)).alloc (.cells #[.int .i64 q] 3)) false none 0 0; simpa using this
  replace x_a := x_a.alloc (.cells #[.bool false, .slice none 0 0] 24)
  replace x_q := x_q.alloc (.cells #[.bool false, .slice none 0 0] 24)
  replace x_r := x_r.alloc (.cells #[.bool false, .slice none 0 0] 24)
  have x_p : Bx ((((w.alloc (.cells #[.bool b, .slice A n c] 24)).alloc (.cells #[.int .i64 q] 3)).alloc (.cells #[.bool false, .slice none 0 0] 24)).alloc (.cells #[.bool false, .slice none 0 0] 24)) (w.heap.size + 1 + 1 + 1) false none 0 0 := by have := Bx.new (((w.alloc (.cells #[.bool b, .slice A n c] 24)).alloc (.cells #[.int .i64 q] 3)).alloc (.cells #[.bool false, .slice none 0 0] 24)) false none 0 0; simpa using this
  have hb : Below w.heap.size w ((((w.alloc (.cells #[.bool b, .slice A n c] 24)).alloc (.cells #[.int .i64 q] 3)).alloc (.cells #[.bool false, .slice none 0 0] 24)).alloc (.cells #[.bool false, .slice none 0 0] 24)) := (Below.alloc (Below.alloc (Below.alloc (Below.alloc (Below.refl w.heap.size w) (by simp) (.cells #[.bool b, .slice A n c] 24)) (by simp) (.cells #[.int .i64 q] 3)) (by simp; omega) (.cells #[.bool false, .slice none 0 0] 24)) (by simp; omega) (.cells #[.bool false, .slice none 0 0] 24))
  generalize (((w.alloc (.cells #[.bool b, .slice A n c] 24)).alloc (.cells #[.int .i64 q] 3)).alloc (.cells #[.bool false, .slice none 0 0] 24)).alloc (.cells #[.bool false, .slice none 0 0] 24) = v1 at *
  replace h := h.keep hb
  obtain ⟨q_a0, f_a0, q_a1, f_a1⟩ := x_a.al
  obtain ⟨q_q0, f_q0⟩ := x_q.al
  obtain ⟨q_r0, f_r0, q_r1, f_r1⟩ := x_r.al
  obtain ⟨q_p0, f_p0, q_p1, f_p1⟩ := x_p.al
  go_wp2_with fail
  with_reducible refine (Kallowed_any h q m 2 (by omega) (by omega)).mono ?_
  rintro e v2 ⟨rfl, hb1⟩
  replace x_a := x_a.keep hb1
  replace x_q := x_q.keep hb1
  replace x_r := x_r.keep hb1
  replace x_p := x_p.keep hb1
  replace h := h.keep hb1
  replace hb := bthen hb hb1
  clear hb1
  clear q_a0 f_a0 q_a1 f_a1; obtain ⟨q_a0, f_a0, q_a1, f_a1⟩ := x_a.al
  clear q_q0 f_q0; obtain ⟨q_q0, f_q0⟩ := x_q.al
  clear q_r0 f_r0 q_r1 f_r1; obtain ⟨q_r0, f_r0, q_r1, f_r1⟩ := x_r.al
  clear q_p0 f_p0 q_p1 f_p1; obtain ⟨q_p0, f_p0, q_p1, f_p1⟩ := x_p.al
  rw [HMY.out]
  go_wp2_with fail
  replace x_a := x_a.aside (b' := false) (A' := none) (n' := 0) (c' := 0) (g := w.heap.size + 1 + 1) (by omega)
  replace x_q := x_q.aside (b' := false) (A' := none) (n' := 0) (c' := 0) (g := w.heap.size + 1 + 1) (by omega)
  replace x_p := x_p.aside (b' := false) (A' := none) (n' := 0) (c' := 0) (g := w.heap.size + 1 + 1) (by omega)
  replace h := h.put (b' := false) (A' := none) (n' := 0) (c' := 0) x_r
  replace hb := put_below (g := w.heap.size + 1 + 1) hb (by omega) (.bool false) (.slice none 0 0)
  replace x_r := x_r.put false none 0 0
  clear q_a0 f_a0 q_a1 f_a1 q_q0 f_q0 q_r0 f_r0 q_r1 f_r1 q_p0 f_p0 q_p1 f_p1
  generalize (v2.setCell ⟨w.heap.size + 1 + 1, 0, none⟩ (.bool false)).setCell ⟨w.heap.size + 1 + 1, 1, none⟩ (.slice none 0 0) = v3 at *
  obtain ⟨q_a0, f_a0, q_a1, f_a1⟩ := x_a.al
  obtain ⟨q_q0, f_q0⟩ := x_q.al
  obtain ⟨q_r0, f_r0, q_r1, f_r1⟩ := x_r.al
  obtain ⟨q_p0, f_p0, q_p1, f_p1⟩ := x_p.al
  replace x_a := x_a.aside (b' := false) (A' := none) (n' := 0) (c' := 0) (g := w.heap.size + 1 + 1 + 1) (by omega)
  replace x_q := x_q.aside (b' := false) (A' := none) (n' := 0) (c' := 0) (g := w.heap.size + 1 + 1 + 1) (by omega)
  replace x_r := x_r.aside (b' := false) (A' := none) (n' := 0) (c' := 0) (g := w.heap.size + 1 + 1 + 1) (by omega)
  replace h := h.put (b' := false) (A' := none) (n' := 0) (c' := 0) x_p
  replace hb := put_below (g := w.heap.size + 1 + 1 + 1) hb (by omega) (.bool false) (.slice none 0 0)
  replace x_p := x_p.put false none 0 0
  clear q_a0 f_a0 q_a1 f_a1 q_q0 f_q0 q_r0 f_r0 q_r1 f_r1 q_p0 f_p0 q_p1 f_p1
  generalize (v3.setCell ⟨w.heap.size + 1 + 1 + 1, 0, none⟩ (.bool false)).setCell ⟨w.heap.size + 1 + 1 + 1, 1, none⟩ (.slice none 0 0) = v4 at *
  obtain ⟨q_a0, f_a0, q_a1, f_a1⟩ := x_a.al
  obtain ⟨q_q0, f_q0⟩ := x_q.al
  obtain ⟨q_r0, f_r0, q_r1, f_r1⟩ := x_r.al
  obtain ⟨q_p0, f_p0, q_p1, f_p1⟩ := x_p.al
  skip
  refine bodyPost_ret (v := .tuple #[.agg #[.bool false, .slice none 0 0], .agg #[.bool false, .slice none 0 0], .int .i64 1]) (by simp [results, Tryz.results9, go_sem, q_r0, q_r1, q_p0, q_p1]) rfl ?_
  exact ⟨_, _, _, _, _, _, rfl, Zn.nul _ _, Zn.nul _ _, hb⟩

set_option maxRecDepth 100000 in
set_option maxHeartbeats 4000000 in
theorem KAtanh_no {b : Bool} {A : Option Addr} {n c : Nat} {X : Int} {j : Nat} {w : World} (h : Zr w b A n c X j) (q m : Int) (k : Nat) (hv : okB X q m 1 = false) (hj : j ≤ 1000) :
    Calls Tryz.prog 12 #[.agg #[.bool b, .slice A n c], .int .i64 q, .int .i64 m] w (Ou2 w 0 0 1 k) := by
  have HMY := Lib.hid hv; clear hv
  go_enter Tryz.func12, Tryz.ntmps12
  go_upto_region 1 with fail
  have x_a : Bx (w.alloc (.cells #[.bool b, .slice A n c] 24)) (w.heap.size) b A n c := by have := Bx.new w b A n c; simpa using this
  replace x_a := x_a.alloc (.cells #[.bool false, .slice none 0 0] 24)
  have x_r : Bx ((w.alloc (.cells #[.bool b, .slice A n c] 24)).alloc (.cells #[.bool false, .slice none 0 0] 24)) (w.heap.size + 1) false none 0 0 := by have := Bx.new (w.alloc (.cells #[.bool b, .slice A n c] 24)) false none 0 0; simpa using this
  replace x_a := x_a.alloc (.cells #[.bool false, .slice none 0 0] 24)
  replace x_r := x_r.alloc (.cells #[.bool false, .slice none 0 0] 24)
  have x_p : Bx (((w.alloc (.cells #[.bool b, .slice A n c] 24)).alloc (.cells #[.bool false, .slice none 0 0] 24)).alloc (.cells #[.bool false, .slice none 0 0] 24)) (w.heap.size + 1 + 1) false none 0 0 := by have := Bx.new ((w.alloc (.cells #[.bool b, .slice A n c] 24)).alloc (.cells #[.bool false, .slice none 0 0] 24)) false none 0 0; simpa using this
  have hb : Below w.heap.size w (((w.alloc (.cells #[.bool b, .slice A n c] 24)).alloc (.cells #[.bool false, .slice none 0 0] 24)).alloc (.cells #[.bool false, .slice none 0 0] 24)) := (Below.alloc (Below.alloc (Below.alloc (Below.refl w.heap.size w) (by simp) (.cells #[.bool b, .slice A n c] 24)) (by simp) (.cells #[.bool false, .slice none 0 0] 24)) (by simp; omega) (.cells #[.bool false, .slice none 0 0] 24))
  generalize ((w.alloc (.cells #[.bool b, .slice A n c] 24)).alloc (.cells #[.bool false, .slice none 0 0] 24)).alloc (.cells #[.bool false, .slice none 0 0] 24) = v1 at *
  replace h := h.keep hb
  obtain ⟨q_a0, f_a0, q_a1, f_a1⟩ := x_a.al
  obtain ⟨q_r0, f_r0, q_r1, f_r1⟩ := x_r.al
  obtain ⟨q_p0, f_p0, q_p1, f_p1⟩ := x_p.al
  go_wp2_with fail
  with_reducible refine (Kallowed_any h q m 1 (by omega) (by omega)).mono ?_
  rintro e v2 ⟨rfl, hb1⟩
  replace x_a := x_a.keep hb1
  replace x_r := x_r.keep hb1
  replace x_p := x_p.keep hb1
  replace h := h.keep hb1
  replace hb := bthen hb hb1
  clear hb1
  clear q_a0 f_a0 q_a1 f_a1; obtain ⟨q_a0, f_a0, q_a1, f_a1⟩ := x_a.al
  clear q_r0 f_r0 q_r1 f_r1; obtain ⟨q_r0, f_r0, q_r1, f_r1⟩ := x_r.al
  clear q_p0 f_p0 q_p1 f_p1; obtain ⟨q_p0, f_p0, q_p1, f_p1⟩ := x_p.al
  rw [HMY.out]
  go_wp2_with fail
  replace x_a := x_a.aside (b' := false) (A' := none) (n' := 0) (c' := 0) (g := w.heap.size + 1) (by omega)
  replace x_p := x_p.aside (b' := false) (A' := none) (n' := 0) (c' := 0) (g := w.heap.size + 1) (by omega)
  replace h := h.put (b' := false) (A' := none) (n' := 0) (c' := 0) x_r
  replace hb := put_below (g := w.heap.size + 1) hb (by omega) (.bool false) (.slice none 0 0)
  replace x_r := x_r.put false none 0 0
  clear q_a0 f_a0 q_a1 f_a1 q_r0 f_r0 q_r1 f_r1 q_p0 f_p0 q_p1 f_p1
  generalize (v2.setCell ⟨w.heap.size + 1, 0, none⟩ (.bool false)).setCell ⟨w.heap.size + 1, 1, none⟩ (.slice none 0 0) = v3 at *
  obtain ⟨q_a0, f_a0, q_a1, f_a1⟩ := x_a.al
  obtain ⟨q_r0, f_r0, q_r1, f_r1⟩ := x_r.al
  obtain ⟨q_p0, f_p0, q_p1, f_p1⟩ := x_p.al
  replace x_a := x_a.aside (b' := false) (A' := none) (n' := 0) (c' := 0) (g := w.heap.size + 1 + 1) (by omega)
  replace x_r := x_r.aside (b' := false) (A' := none) (n' := 0) (c' := 0) (g := w.heap.size + 1 + 1) (by omega)
  replace h := h.put (b' := false) (A' := none) (n' := 0) (c' := 0) x_p
  replace hb := put_below (g := w.heap.size + 1 + 1) hb (by omega) (.bool false) (.slice none 0 0)
  replace x_p := x_p.put false none 0 0
  clear q_a0 f_a0 q_a1 f_a1 q_r0 f_r0 q_r1 f_r1 q_p0 f_p0 q_p1 f_p1
  generalize (v3.setCell ⟨w.heap.size + 1 + 1, 0, none⟩ (.bool false)).setCell ⟨w.heap.size + 1 + 1, 1, none⟩ (.slice none 0 0) = v4 at *
  obtain ⟨q_a0, f_a0, q_a1, f_a1⟩ := x_a.al
  obtain ⟨q_r0, f_r0, q_r1, f_r1⟩ := x_r.al
  obtain ⟨q_p0, f_p0, q_p1, f_p1⟩ := x_p.al
  skip
  refine bodyPost_ret (v := .tuple #[.agg #[.bool false, .slice none 0 0], .agg #[.bool false, .slice none 0 0], .int .i64 1]) (by simp [results, Tryz.results12, go_sem, q_r0, q_r1, q_p0, q_p1]) rfl ?_
  exact ⟨_, _, _, _, _, _, rfl, Zn.nul _ _, Zn.nul _ _, hb⟩

set_option maxRecDepth 100000 in
set_option maxHeartbeats 4000000 in
theorem KAtan_no {b : Bool} {A : Option Addr} {n c : Nat} {X : Int} {j : Nat} {w : World} (h : Zr w b A n c X j) (q m : Int) (k : Nat) (hv : okB X q m 1 = false) (hj : j ≤ 1000) :
    Calls Tryz.prog 14 #[.agg #[.bool b, .slice A n c], .int .i64 q, .int .i64 m] w (Ou2 w 0 0 1 k) := by
  have HMY := Lib.hid hv; clear hv
  go_enter Tryz.func14, Tryz.ntmps14
  go_upto_region 1 with fail
  have x_a : Bx (w.alloc (.cells #[.bool b, .slice A n c] 24)) (w.heap.size) b A n c := by have := Bx.new w b A n c; simpa using this
  replace x_a := x_a.alloc (.cells #[.bool false, .slice none 0 0] 24)
  have x_r : Bx ((w.alloc (.cells #[.bool b, .slice A n c] 24)).alloc (.cells #[.bool false, .slice none 0 0] 24)) (w.heap.size + 1) false none 0 0 := by have := Bx.new (w.alloc (.cells #[.bool b, .slice A n c] 24)) false none 0 0; simpa using this
  replace x_a := x_a.alloc (.cells #[.bool false, .slice none 0 0] 24)
  replace x_r := x_r.alloc (.cells #[.bool false, .slice none 0 0] 24)
  have x_p : Bx (((w.alloc (.cells #[.bool b, .slice A n c] 24)).alloc (.cells #[.bool false, .slice none 0 0] 24)).alloc (.cells #[.bool false, .slice none 0 0] 24)) (w.heap.size + 1 + 1) false none 0 0 := by have := Bx.new ((w.alloc (.cells #[.bool b, .slice A n c] 24)).alloc (.cells #[.bool false, .slice none 0 0] 24)) false none 0 0; simpa using this
  have hb : Below w.heap.size w (((w.alloc (.cells #[.bool b, .slice A n c] 24)).alloc (.cells #[.bool false, .slice none 0 0] 24)).alloc (.cells #[.bool false, .slice none 0 0] 24)) := (Below.alloc (Below.alloc (Below.alloc (Below.refl w.heap.size w) (by simp) (.cells #[.bool b, .slice A n c] 24)) (by simp) (.cells #[.bool false, .slice none 0 0] 24)) (by simp; omega) (.cells #[.bool false, .slice none 0 0] 24))
  generalize ((w.alloc (.cells #[.bool b, .slice A n c] 24)).alloc (.cells #[.bool false, .slice none 0 0] 24)).alloc (.cells #[.bool false, .slice none 0 0] 24) = v1 at *
  replace h := h.keep hb
  obtain ⟨q_a0, f_a0, q_a1, f_a1⟩ := x_a.al
  obtain ⟨q_r0, f_r0, q_r1, f_r1⟩ := x_r.al
  obtain ⟨q_p0, f_p0, q_p1, f_p1⟩ := x_p.al
  go_wp2_with fail
  with_reducible refine (Kallowed_any h q m 1 (by omega) (by omega)).mono ?_
  rintro e v2 ⟨rfl, hb1⟩
  replace x_a := x_a.keep hb1
  replace x_r := x_r.keep hb1
  replace x_p := x_p.keep hb1
  replace h := h.keep hb1
  replace hb := bthen hb hb1
  clear hb1
  clear q_a0 f_a0 q_a1 f_a1; obtain ⟨q_a0, f_a0, q_a1, f_a1⟩ := x_a.al
  clear q_r0 f_r0 q_r1 f_r1; obtain ⟨q_r0, f_r0, q_r1, f_r1⟩ := x_r.al
  clear q_p0 f_p0 q_p1 f_p1; obtain ⟨q_p0, f_p0, q_p1, f_p1⟩ := x_p.al
  rw [HMY.out]
  go_wp2_with fail
  replace x_a := x_a.aside (b' := false) (A' := none) (n' := 0) (c' := 0) (g := w.heap.size + 1) (by omega)
  replace x_p := x_p.aside (b' := false) (A' := none) (n' := 0) (c' := 0) (g := w.heap.size + 1) (by omega)
  replace h := h.put (b' := false) (A' := none) (n' := 0) (c' := 0) x_r
  replace hb := put_below (g := w.heap.size + 1) hb (by omega) (.bool false) (.slice none 0 0)
  replace x_r := x_r.put false none 0 0
  clear q_a0 f_a0 q_a1 f_a1 q_r0 f_r0 q_r1 f_r1 q_p0 f_p0 q_p1 f_p1
  generalize (v2.setCell ⟨w.heap.size + 1, 0, none⟩ (.bool false)).setCell ⟨w.heap.size + 1, 1, none⟩ (.slice none 0 0) = v3 at *
  obtain ⟨q_a0, f_a0, q_a1, f_a1⟩ := x_a.al
  obtain ⟨q_r0, f_r0, q_r1, f_r1⟩ := x_r.al
  obtain ⟨q_p0, f_p0, q_p1, f_p1⟩ := x_p.al
  replace x_a := x_a.aside (b' := false) (A' := none) (n' := 0) (c' := 0) (g := w.heap.size + 1 + 1) (by omega)
  replace x_r := x_r.aside (b' := false) (A' := none) (n' := 0) (c' := 0) (g := w.heap.size + 1 + 1) (by omega)
  replace h := h.put (b' := false) (A' := none) (n' := 0) (c' := 0) x_p
  replace hb := put_below (g := w.heap.size + 1 + 1) hb (by omega) (.bool false) (.slice none 0 0)
  replace x_p := x_p.put false none 0 0
  clear q_a0 f_a0 q_a1 f_a1 q_r0 f_r0 q_r1 f_r1 q_p0 f_p0 q_p1 f_p1
  generalize (v3.setCell ⟨w.heap.size + 1 + 1, 0, none⟩ (.bool false)).setCell ⟨w.heap.size + 1 + 1, 1, none⟩ (.slice none 0 0) = v4 at *
  obtain ⟨q_a0, f_a0, q_a1, f_a1⟩ := x_a.al
  obtain ⟨q_r0, f_r0, q_r1, f_r1⟩ := x_r.al
  obtain ⟨q_p0, f_p0, q_p1, f_p1⟩ := x_p.al
  skip
  refine bodyPost_ret (v := .tuple #[.agg #[.bool false, .slice none 0 0], .agg #[.bool false, .slice none 0 0], .int .i64 1]) (by simp [results, Tryz.results14, go_sem, q_r0, q_r1, q_p0, q_p1]) rfl ?_
  exact ⟨_, _, _, _, _, _, rfl, Zn.nul _ _, Zn.nul _ _, hb⟩

set_option maxRecDepth 100000 in
set_option maxHeartbeats 4000000 in
theorem KSin_no {b : Bool} {A : Option Addr} {n c : Nat} {X : Int} {j : Nat} {w : World} (h : Zr w b A n c X j) (q m : Int) (k : Nat) (hv : okB X q m 4 = false) (hj : j ≤ 1000) :
    Calls Tryz.prog 16 #[.agg #[.bool b, .slice A n c], .int .i64 q, .int .i64 m] w (Ou2 w 0 0 1 k) := by
  have HMY := Lib.hid hv; clear hv
  go_enter Tryz.func16, Tryz.ntmps16
  go_upto_region 1 with fail
  have x_a : Bx (w.alloc (.cells #[.bool b, .slice A n c] 24)) (w.heap.size) b A n c := by have := Bx.new w b A n c; simpa using this
  replace x_a := x_a.alloc (.cells #[.int .i64 q] 3)
  have x_q : Cx ((w.alloc (.cells #[.bool b, .slice A n c] 24)).alloc (.cells #[.int .i64 q] 3)) (w.heap.size + 1) (.int .i64 q) (3) := by have := Cx.new (w.alloc (.cells #[.bool b, .slice A n c] 24)) (.int .i64 q) (3); simpa using this
  replace x_a := x_a.alloc (.cells #[.bool false, .slice none 0 0] 24)
  replace x_q := x_q.alloc (.cells #[.bool false, .slice none 0 0] 24)
  have x_r : Bx (((w.alloc (.cells #[.bool b, .slice A n c] 24)).alloc (.cells #[.int .i64 q] 3)).alloc (.cells #[.bool false, .slice none 0 0] 24)) (w.heap.size + 1 + 1) false none 0 0 := by have := Bx.new ((w.alloc (.cells #[.bool b, .slice A n c] 24)).alloc (.cells #[.int .i64 q] 3)) false none 0 0; simpa using this
  replace x_a := x_a.alloc (.cells #[.bool false, .slice none 0 0] 24)
  replace x_q := x_q.alloc (.cells #[.bool false, .slice none 0 0] 24)
  replace x_r := x_r.alloc (.cells #[.bool false, .slice none 0 0] 24)
  have x_p : Bx ((((w.alloc (.cells #[.bool b, .slice A n c] 24)).alloc (.cells #[.int .i64 q] 3)).alloc (.cells #[.bool false, .slice none 0 0] 24)).alloc (.cells #[.bool false, .slice none 0 0] 24)) (w.heap.size + 1 + 1 + 1) false none 0 0 := by have := Bx.new (((w.alloc (.cells #[.bool b, .slice A n c] 24)).alloc (.cells #[.int .i64 q] 3)).alloc (.cells #[.bool false, .slice none 0 0] 24)) false none 0 0; simpa using this
  have hb : Below w.heap.size w ((((w.alloc (.cells #[.bool b, .slice A n c] 24)).alloc (.cells #[.int .i64 q] 3)).alloc (.cells #[.bool false, .slice none 0 0] 24)).alloc (.cells #[.bool false, .slice none 0 0] 24)) := (Below.alloc (Below.alloc (Below.alloc (Below.alloc (Below.refl w.heap.size w) (by simp) (.cells #[.bool b, .slice A n c] 24)) (by simp) (.cells #[.int .i64 q] 3)) (by simp; omega) (.cells #[.bool false, .slice none 0 0] 24)) (by simp; omega) (.cells #[.bool false, .slice none 0 0] 24))
  generalize (((w.alloc (.cells #[.bool b, .slice A n c] 24)).alloc (.cells #[.int .i64 q] 3)).alloc (.cells #[.bool false, .slice none 0 0] 24)).alloc (.cells #[.bool false, .slice none 0 0] 24) = v1 at *
  replace h := h.keep hb
  obtain ⟨q_a0, f_a0, q_a1, f_a1⟩ := x_a.al
  obtain ⟨q_q0, f_q0⟩ := x_q.al
  obtain ⟨q_r0, f_r0, q_r1, f_r1⟩ := x_r.al
  obtain ⟨q_p0, f_p0, q_p1, f_p1⟩ := x_p.al
  go_wp2_with fail
  with_reducible refine (Kallowed_any h q m 4 (by omega) (by omega)).mono ?_
  rintro e v2 ⟨rfl, hb1⟩
  replace x_a := x_a.keep hb1
  replace x_q := x_q.keep hb1
  replace x_r := x_r.keep hb1
  replace x_p := x_p.keep hb1
  replace h := h.keep hb1
  replace hb := bthen hb hb1
  clear hb1
  clear q_a0 f_a0 q_a1 f_a1; obtain ⟨q_a0, f_a0, q_a1, f_a1⟩ := x_a.al
  clear q_q0 f_q0; obtain ⟨q_q0, f_q0⟩ := x_q.al
  clear q_r0 f_r0 q_r1 f_r1; obtain ⟨q_r0, f_r0, q_r1, f_r1⟩ := x_r.al
  clear q_p0 f_p0 q_p1 f_p1; obtain ⟨q_p0, f_p0, q_p1, f_p1⟩ := x_p.al
  rw [HMY.out]
  go_wp2_with fail
  replace x_a := x_a.aside (b' := false) (A' := none) (n' := 0) (c' := 0) (g := w.heap.size + 1 + 1) (by omega)
  replace x_q := x_q.aside (b' := false) (A' := none) (n' := 0) (c' := 0) (g := w.heap.size + 1 + 1) (by omega)
  replace x_p := x_p.aside (b' := false) (A' := none) (n' := 0) (c' := 0) (g := w.heap.size + 1 + 1) (by omega)
  replace h := h.put (b' := false) (A' := none) (n' := 0) (c' := 0) x_r
  replace hb := put_below (g := w.heap.size + 1 + 1) hb (by omega) (.bool false) (.slice none 0 0)
  replace x_r := x_r.put false none 0 0
  clear q_a0 f_a0 q_a1 f_a1 q_q0 f_q0 q_r0 f_r0 q_r1 f_r1 q_p0 f_p0 q_p1 f_p1
  generalize (v2.setCell ⟨w.heap.size + 1 + 1, 0, none⟩ (.bool false)).setCell ⟨w.heap.size + 1 + 1, 1, none⟩ (.slice none 0 0) = v3 at *
  obtain ⟨q_a0, f_a0, q_a1, f_a1⟩ := x_a.al
  obtain ⟨q_q0, f_q0⟩ := x_q.al
  obtain ⟨q_r0, f_r0, q_r1, f_r1⟩ := x_r.al
  obtain ⟨q_p0, f_p0, q_p1, f_p1⟩ := x_p.al
  replace x_a := x_a.aside (b' := false) (A' := none) (n' := 0) (c' := 0) (g := w.heap.size + 1 + 1 + 1) (by omega)
  replace x_q := x_q.aside (b' := false) (A' := none) (n' := 0) (c' := 0) (g := w.heap.size + 1 + 1 + 1) (by omega)
  replace x_r := x_r.aside (b' := false) (A' := none) (n' := 0) (c' := 0) (g := w.heap.size + 1 + 1 + 1) (by omega)
  replace h := h.put (b' := false) (A' := none) (n' := 0) (c' := 0) x_p
  replace hb := put_below (g := w.heap.size + 1 + 1 + 1) hb (by omega) (.bool false) (.slice none 0 0)
  replace x_p := x_p.put false none 0 0
  clear q_a0 f_a0 q_a1 f_a1 q_q0 f_q0 q_r0 f_r0 q_r1 f_r1 q_p0 f_p0 q_p1 f_p1
  generalize (v3.setCell ⟨w.heap.size + 1 + 1 + 1, 0, none⟩ (.bool false)).setCell ⟨w.heap.size + 1 + 1 + 1, 1, none⟩ (.slice none 0 0) = v4 at *
  obtain ⟨q_a0, f_a0, q_a1, f_a1⟩ := x_a.al
  obtain ⟨q_q0, f_q0⟩ := x_q.al
  obtain ⟨q_r0, f_r0, q_r1, f_r1⟩ := x_r.al
  obtain ⟨q_p0, f_p0, q_p1, f_p1⟩ := x_p.al
  skip
  refine bodyPost_ret (v := .tuple #[.agg #[.bool false, .slice none 0 0], .agg #[.bool false, .slice none 0 0], .int .i64 1]) (by simp [results, Tryz.results16, go_sem, q_r0, q_r1, q_p0, q_p1]) rfl ?_
  exact ⟨_, _, _, _, _, _, rfl, Zn.nul _ _, Zn.nul _ _, hb⟩

set_option maxRecDepth 100000 in
set_option maxHeartbeats 4000000 in
theorem KCos_no {b : Bool} {A : Option Addr} {n c : Nat} {X : Int} {j : Nat} {w : World} (h : Zr w b A n c X j) (q m : Int) (k : Nat) (hv : okB X q m 4 = false) (hj : j ≤ 1000) :
    Calls Tryz.prog 18 #[.agg #[.bool b, .slice A n c], .int .i64 q, .int .i64 m] w (Ou2 w 0 0 1 k) := by
  have HMY := Lib.hid hv; clear hv
  go_enter Tryz.func18, Tryz.ntmps18
  go_upto_region 1 with fail
  have x_a : Bx (w.alloc (.cells #[.bool b, .slice A n c] 24)) (w.heap.size) b A n c := by have := Bx.new w b A n c; simpa using this
  replace x_a := x_a.alloc (.cells #[.int .i64 q] 3)
  have x_q : Cx ((w.alloc (.cells #[.bool b, .slice A n c] 24)).alloc (.cells #[.int .i64 q] 3)) (w.heap.size + 1) (.int .i64 q) (3) := by have := Cx.new (w.alloc (.cells #[.bool b, .slice A n c] 24)) (.int .i64 q) (3); simpa using this
  replace x_a := x_a.alloc (.cells #[.bool false, .slice none 0 0] 24)
  replace x_q := x_q.alloc (.cells #[.bool false, .slice none 0 0] 24)
  have x_r : Bx (((w.alloc (.cells #[.bool b, .slice A n c] 24)).alloc (.cells #[.int .i64 q] 3)).alloc (.cells #[.bool false, .slice none 0 0] 24)) (w.heap.size + 1 + 1) false none 0 0 := by have := Bx.new ((w.alloc (.cells #[.bool b, .slice A n c] 24)).alloc (.cells #[.int .i64 q] 3)) false none 0 0; simpa using this
  replace x_a := x_a.alloc (.cells #[.bool false, .slice none 0 0] 24)
  replace x_q := x_q.alloc (.cells #[.bool false, .slice none 0 0] 24)
  replace x_r := x_r.alloc (.cells #[.bool false, .slice none 0 0] 24)
  have x_p : Bx ((((w.alloc (.cells #[.bool b, .slice A n c] 24)).alloc (.cells #[.int .i64 q] 3)).alloc (.cells #[.bool false, .slice none 0 0] 24)).alloc (.cells #[.bool false, .slice none 0 0] 24)) (w.heap.size + 1 + 1 + 1) false none 0 0 := by have := Bx.new (((w.alloc (.cells #[.bool b, .slice A n c] 24)).alloc (.cells #[.int .i64 q] 3)).alloc (.cells #[.bool false, .slice none 0 0] 24)) false none 0 0; simpa using this
  have hb : Below w.heap.size w ((((w.alloc (.cells #[.bool b, .slice A n c] 24)).alloc (.cells #[.int .i64 q] 3)).alloc (.cells #[.bool false, .slice none 0 0] 24)).alloc (.cells #[.bool false, .slice none 0 0] 24)) := (Below.alloc (Below.alloc (Below.alloc (Below.alloc (Below.refl w.heap.size w) (by simp) (.cells #[.bool b, .slice A n c] 24)) (by simp) (.cells #[.int .i64 q] 3)) (by simp; omega) (.cells #[.bool false, .slice none 0 0] 24)) (by simp; omega) (.cells #[.bool false, .slice none 0 0] 24))
  generalize (((w.alloc (.cells #[.bool b, .slice A n c] 24)).alloc (.cells #[.int .i64 q] 3)).alloc (.cells #[.bool false, .slice none 0 0] 24)).alloc (.cells #[.bool false, .slice none 0 0] 24) = v1 at *
  replace h := h.keep hb
  obtain ⟨q_a0, f_a0, q_a1, f_a1⟩ := x_a.al
  obtain ⟨q_q0, f_q0⟩ := x_q.al
  obtain ⟨q_r0, f_r0, q_r1, f_r1⟩ := x_r.al
  obtain ⟨q_p0, f_p0, q_p1, f_p1⟩ := x_p.al
  go_wp2_with fail
  with_reducible refine (Kallowed_any h q m 4 (by omega) (by omega)).mono ?_
  rintro e v2 ⟨rfl, hb1⟩
  replace x_a := x_a.keep hb1
  replace x_q := x_q.keep hb1
  replace x_r := x_r.keep hb1
  replace x_p := x_p.keep hb1
  replace h := h.keep hb1
  replace hb := bthen hb hb1
  clear hb1
  clear q_a0 f_a0 q_a1 f_a1; obtain ⟨q_a0, f_a0, q_a1, f_a1⟩ := x_a.al
  clear q_q0 f_q0; obtain ⟨q_q0, f_q0⟩ := x_q.al
  clear q_r0 f_r0 q_r1 f_r1; obtain ⟨q_r0, f_r0, q_r1, f_r1⟩ := x_r.al
  clear q_p0 f_p0 q_p1 f_p1; obtain ⟨q_p0, f_p0, q_p1, f_p1⟩ := x_p.al
  rw [HMY.out]
  go_wp2_with fail
  replace x_a := x_a.aside (b' := false) (A' := none) (n' := 0) (c' := 0) (g := w.heap.size + 1 + 1) (by omega)
  replace x_q := x_q.aside (b' := false) (A' := none) (n' := 0) (c' := 0) (g := w.heap.size + 1 + 1) (by omega)
  replace x_p := x_p.aside (b' := false) (A' := none) (n' := 0) (c' := 0) (g := w.heap.size + 1 + 1) (by omega)
  replace h := h.put (b' := false) (A' := none) (n' := 0) (c' := 0) x_r
  replace hb := put_below (g := w.heap.size + 1 + 1) hb (by omega) (.bool false) (.slice none 0 0)
  replace x_r := x_r.put false none 0 0
  clear q_a0 f_a0 q_a1 f_a1 q_q0 f_q0 q_r0 f_r0 q_r1 f_r1 q_p0 f_p0 q_p1 f_p1
  generalize (v2.setCell ⟨w.heap.size + 1 + 1, 0, none⟩ (.bool false)).setCell ⟨w.heap.size + 1 + 1, 1, none⟩ (.slice none 0 0) = v3 at *
  obtain ⟨q_a0, f_a0, q_a1, f_a1⟩ := x_a.al
  obtain ⟨q_q0, f_q0⟩ := x_q.al
  obtain ⟨q_r0, f_r0, q_r1, f_r1⟩ := x_r.al
  obtain ⟨q_p0, f_p0, q_p1, f_p1⟩ := x_p.al
  replace x_a := x_a.aside (b' := false) (A' := none) (n' := 0) (c' := 0) (g := w.heap.size + 1 + 1 + 1) (by omega)
  replace x_q := x_q.aside (b' := false) (A' := none) (n' := 0) (c' := 0) (g := w.heap.size + 1 + 1 + 1) (by omega)
  replace x_r := x_r.aside (b' := false) (A' := none) (n' := 0) (c' := 0) (g := w.heap.size + 1 + 1 + 1) (by omega)
  replace h := h.put (b' := false) (A' := none) (n' := 0) (c' := 0) x_p
  replace hb := put_below (g := w.heap.size + 1 + 1 + 1) hb (by omega) (.bool false) (.slice none 0 0)
  replace x_p := x_p.put false none 0 0
  clear q_a0 f_a0 q_a1 f_a1 q_q0 f_q0 q_r0 f_r0 q_r1 f_r1 q_p0 f_p0 q_p1 f_p1
  generalize (v3.setCell ⟨w.heap.size + 1 + 1 + 1, 0, none⟩ (.bool false)).setCell ⟨w.heap.size + 1 + 1 + 1, 1, none⟩ (.slice none 0 0) = v4 at *
  obtain ⟨q_a0, f_a0, q_a1, f_a1⟩ := x_a.al
  obtain ⟨q_q0, f_q0⟩ := x_q.al
  obtain ⟨q_r0, f_r0, q_r1, f_r1⟩ := x_r.al
  obtain ⟨q_p0, f_p0, q_p1, f_p1⟩ := x_p.al
  skip
  refine bodyPost_ret (v := .tuple #[.agg #[.bool false, .slice none 0 0], .agg #[.bool false, .slice none 0 0], .int .i64 1]) (by simp [results, Tryz.results18, go_sem, q_r0, q_r1, q_p0, q_p1]) rfl ?_
  exact ⟨_, _, _, _, _, _, rfl, Zn.nul _ _, Zn.nul _ _, hb⟩

end Go.Proofs.YthlpdljkclngdaaGreat
