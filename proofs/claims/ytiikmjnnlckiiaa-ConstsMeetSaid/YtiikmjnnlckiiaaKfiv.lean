/-
  rows: the five functions: numbers, errors.
-/
import Derived.Test.YtiikmjnnlckiiaaKall
import Derived.Test.YtiikmjnnlckiiaaKalt
import Derived.Test.YtiikmjnnlckiiaaKodp
namespace Go.Proofs.Ytiikmjnnlckiiaa
open Go.RowKit
set_option linter.unusedVariables false

theorem Zr.upK {w : World} {b : Bool} {A : Option Addr} {n c j k : Nat} {X : Int} (h : Zr w b A n c X j) (hk : j ≤ k) : Zr w b A n c X k := by
  obtain ⟨l, h1, h2, h3⟩ := h
  exact ⟨l, h1, h2, Nat.le_trans h3 hk⟩
theorem tw_sc {Q : Nat} (hQ : Q ≤ 1200) : (2 : Int) ^ sc (Q : Int) = twP Q := by rw [show sc (Q : Int) = Q by unfold sc; omega]; rfl
theorem tw_sc2 {Q : Nat} (hQ : Q ≤ 1200) : (2 : Int) ^ sc (2 * (Q : Int)) = twP Q * twP Q := by rw [show sc (2 * (Q : Int)) = Q + Q by unfold sc; omega, Int.pow_add]; rfl
theorem ok_yes {X : Int} {Q M : Nat} {d : Int} (hQ : Q ≤ 1200) (hM : 1 ≤ M ∧ M ≤ 400) (hX : 0 ≤ X ∧ 2 * X ≤ d * twP Q) : okB X Q M d = true := by
  unfold okB
  rw [tw_sc hQ]
  simp; omega
theorem ok_is {X q m d : Int} (h : okB X q m d = true) : ∃ Q M : Nat, q = Q ∧ m = M ∧ Q ≤ 1200 ∧ 1 ≤ M ∧ M ≤ 400 ∧ 0 ≤ X ∧ 2 * X ≤ d * twP Q := by
  unfold okB at h
  simp at h
  obtain ⟨⟨h1, h2, h3, h4, h5⟩, h6⟩ := h
  obtain ⟨Q, rfl⟩ := Int.eq_ofNat_of_zero_le h1
  obtain ⟨M, rfl⟩ := Int.eq_ofNat_of_zero_le (show 0 ≤ m by omega)
  rw [tw_sc (by omega)] at h6
  exact ⟨Q, M, rfl, rfl, by omega, by omega, by omega, h5, h6⟩
section
variable {t : Int} {q : Nat}
theorem si1 {x : Int} {q : Nat} (hq : q ≤ 1200) (h0 : 0 ≤ x) (h : x ≤ 2 * twP q) : Si x 20 := si_tw (K := 2) (by omega) hq (by omega) (by have := tw_pos q; omega)
theorem si_sum {f : Nat → Int} {q : Nat} (hq : q ≤ 1200) (h0 : ∀ k, 0 ≤ f k) (h : ∀ k, f k ≤ twP q) (n : Nat) (hn : n ≤ 2000) : Si (sumI f n) 20 := by
  have b := sum_bd h0 h n
  refine si_tw (K := n) hn hq b.2 ?_
  have := Int.mul_nonneg (show (0 : Int) ≤ n by omega) (Int.le_of_lt (tw_pos q)); omega
theorem si_alt {f g : Nat → Int} {q : Nat} (hq : q ≤ 1200) (h0 : ∀ k, 0 ≤ f k) (h : ∀ k, f k ≤ 2 * twP q) (h1 : ∀ k, 0 ≤ g k) (h2 : ∀ k, g k ≤ 2 * twP q) (n : Nat) (hn : n ≤ 1000) : Si (altI f g n) 20 := by
  have b := alt_bd h0 h h1 h2 n
  have e : (n : Int) * (2 * twP q) = (2 * n : Nat) * twP q := by push_cast; grind
  rw [e] at b
  exact si_tw (K := 2 * n) (by omega) hq b.2 b.1
end
theorem gs_q {gq Q : Nat} {w : World} (x : Cx w gq (.int .i64 (Q : Nat)) 3) : Gs (gq + 1) (fun w _ => Cx w gq (.int .i64 (Q : Nat)) 3) w 0 :=
  ⟨x, x.lt, fun v v' j h hf => h.via hf (by omega)⟩
set_option maxRecDepth 100000 in
set_option maxHeartbeats 4000000 in
theorem KAtanh_no {b : Bool} {A : Option Addr} {n c : Nat} {X : Int} {j : Nat} {w : World} (h : Zr w b A n c X j) (q m : Int) (k : Nat) (hv : okB X q m 1 = false) (hj : j ≤ 1000) :
    Calls Try.prog 33 #[.agg #[.bool b, .slice A n c], .int .i64 q, .int .i64 m] w (Ou2 w 0 0 1 k) := by
  have HMY := Lib.hid hv; clear hv
  go_enter Try.func33, Try.ntmps33
  go_upto_region 1 with fail
  have x_a : Bx (w.alloc (.cells #[.bool b, .slice A n c] 25)) (w.heap.size) b A n c := by have := Bx.new w b A n c; simpa using this
  replace x_a := x_a.alloc (.cells #[.bool false, .slice none 0 0] 25)
  have x_r : Bx ((w.alloc (.cells #[.bool b, .slice A n c] 25)).alloc (.cells #[.bool false, .slice none 0 0] 25)) (w.heap.size + 1) false none 0 0 := by have := Bx.new (w.alloc (.cells #[.bool b, .slice A n c] 25)) false none 0 0; simpa using this
  replace x_a := x_a.alloc (.cells #[.bool false, .slice none 0 0] 25)
  replace x_r := x_r.alloc (.cells #[.bool false, .slice none 0 0] 25)
  have x_p : Bx (((w.alloc (.cells #[.bool b, .slice A n c] 25)).alloc (.cells #[.bool false, .slice none 0 0] 25)).alloc (.cells #[.bool false, .slice none 0 0] 25)) (w.heap.size + 1 + 1) false none 0 0 := by have := Bx.new ((w.alloc (.cells #[.bool b, .slice A n c] 25)).alloc (.cells #[.bool false, .slice none 0 0] 25)) false none 0 0; simpa using this
  have hb : Below w.heap.size w (((w.alloc (.cells #[.bool b, .slice A n c] 25)).alloc (.cells #[.bool false, .slice none 0 0] 25)).alloc (.cells #[.bool false, .slice none 0 0] 25)) := (Below.alloc (Below.alloc (Below.alloc (Below.refl w.heap.size w) (by simp) (.cells #[.bool b, .slice A n c] 25)) (by simp) (.cells #[.bool false, .slice none 0 0] 25)) (by simp; omega) (.cells #[.bool false, .slice none 0 0] 25))
  generalize ((w.alloc (.cells #[.bool b, .slice A n c] 25)).alloc (.cells #[.bool false, .slice none 0 0] 25)).alloc (.cells #[.bool false, .slice none 0 0] 25) = v1 at *
  replace h := h.keep hb
  have q_a := x_a.al
  have q_r := x_r.al
  have q_p := x_p.al
  go_wp2_with fail
  with_reducible refine (Kallowed_any h q m 1 (by omega) (by omega)).mono ?_
  rintro e v2 ⟨rfl, hb1⟩
  obtain ⟨x_a, x_r, x_p, h⟩ := mv4 hb1 x_a x_r x_p h
  replace hb := bthen hb hb1
  clear hb1
  replace q_a := x_a.al
  replace q_r := x_r.al
  replace q_p := x_p.al
  rw [HMY.out]
  go_wp2_with fail
  replace x_a := x_a.aside (b' := false) (A' := none) (n' := 0) (c' := 0) (g := w.heap.size + 1) (by omega)
  replace x_p := x_p.aside (b' := false) (A' := none) (n' := 0) (c' := 0) (g := w.heap.size + 1) (by omega)
  replace h := h.put (b' := false) (A' := none) (n' := 0) (c' := 0) x_r
  replace hb := put_below (g := w.heap.size + 1) hb (by omega) (.bool false) (.slice none 0 0)
  replace x_r := x_r.put false none 0 0
  clear q_a q_r q_p
  generalize (v2.setCell ⟨w.heap.size + 1, 0, none⟩ (.bool false)).setCell ⟨w.heap.size + 1, 1, none⟩ (.slice none 0 0) = v3 at *
  have q_a := x_a.al
  have q_r := x_r.al
  have q_p := x_p.al
  replace x_a := x_a.aside (b' := false) (A' := none) (n' := 0) (c' := 0) (g := w.heap.size + 1 + 1) (by omega)
  replace x_r := x_r.aside (b' := false) (A' := none) (n' := 0) (c' := 0) (g := w.heap.size + 1 + 1) (by omega)
  replace h := h.put (b' := false) (A' := none) (n' := 0) (c' := 0) x_p
  replace hb := put_below (g := w.heap.size + 1 + 1) hb (by omega) (.bool false) (.slice none 0 0)
  replace x_p := x_p.put false none 0 0
  clear q_a q_r q_p
  generalize (v3.setCell ⟨w.heap.size + 1 + 1, 0, none⟩ (.bool false)).setCell ⟨w.heap.size + 1 + 1, 1, none⟩ (.slice none 0 0) = v4 at *
  have q_a := x_a.al
  have q_r := x_r.al
  have q_p := x_p.al
  skip
  refine bodyPost_ret (v := .tuple #[.agg #[.bool false, .slice none 0 0], .agg #[.bool false, .slice none 0 0], .int .i64 1]) (by simp [results, Try.results33, go_sem, q_r, q_p]) rfl ?_
  exact ⟨_, _, _, _, _, _, rfl, Zn.nul _ _, Zn.nul _ _, hb⟩

set_option maxRecDepth 100000 in
set_option maxHeartbeats 4000000 in
theorem KAtan_no {b : Bool} {A : Option Addr} {n c : Nat} {X : Int} {j : Nat} {w : World} (h : Zr w b A n c X j) (q m : Int) (k : Nat) (hv : okB X q m 1 = false) (hj : j ≤ 1000) :
    Calls Try.prog 34 #[.agg #[.bool b, .slice A n c], .int .i64 q, .int .i64 m] w (Ou2 w 0 0 1 k) := by
  have HMY := Lib.hid hv; clear hv
  go_enter Try.func34, Try.ntmps34
  go_upto_region 1 with fail
  have x_a : Bx (w.alloc (.cells #[.bool b, .slice A n c] 25)) (w.heap.size) b A n c := by have := Bx.new w b A n c; simpa using this
  replace x_a := x_a.alloc (.cells #[.bool false, .slice none 0 0] 25)
  have x_r : Bx ((w.alloc (.cells #[.bool b, .slice A n c] 25)).alloc (.cells #[.bool false, .slice none 0 0] 25)) (w.heap.size + 1) false none 0 0 := by have := Bx.new (w.alloc (.cells #[.bool b, .slice A n c] 25)) false none 0 0; simpa using this
  replace x_a := x_a.alloc (.cells #[.bool false, .slice none 0 0] 25)
  replace x_r := x_r.alloc (.cells #[.bool false, .slice none 0 0] 25)
  have x_p : Bx (((w.alloc (.cells #[.bool b, .slice A n c] 25)).alloc (.cells #[.bool false, .slice none 0 0] 25)).alloc (.cells #[.bool false, .slice none 0 0] 25)) (w.heap.size + 1 + 1) false none 0 0 := by have := Bx.new ((w.alloc (.cells #[.bool b, .slice A n c] 25)).alloc (.cells #[.bool false, .slice none 0 0] 25)) false none 0 0; simpa using this
  have hb : Below w.heap.size w (((w.alloc (.cells #[.bool b, .slice A n c] 25)).alloc (.cells #[.bool false, .slice none 0 0] 25)).alloc (.cells #[.bool false, .slice none 0 0] 25)) := (Below.alloc (Below.alloc (Below.alloc (Below.refl w.heap.size w) (by simp) (.cells #[.bool b, .slice A n c] 25)) (by simp) (.cells #[.bool false, .slice none 0 0] 25)) (by simp; omega) (.cells #[.bool false, .slice none 0 0] 25))
  generalize ((w.alloc (.cells #[.bool b, .slice A n c] 25)).alloc (.cells #[.bool false, .slice none 0 0] 25)).alloc (.cells #[.bool false, .slice none 0 0] 25) = v1 at *
  replace h := h.keep hb
  have q_a := x_a.al
  have q_r := x_r.al
  have q_p := x_p.al
  go_wp2_with fail
  with_reducible refine (Kallowed_any h q m 1 (by omega) (by omega)).mono ?_
  rintro e v2 ⟨rfl, hb1⟩
  obtain ⟨x_a, x_r, x_p, h⟩ := mv4 hb1 x_a x_r x_p h
  replace hb := bthen hb hb1
  clear hb1
  replace q_a := x_a.al
  replace q_r := x_r.al
  replace q_p := x_p.al
  rw [HMY.out]
  go_wp2_with fail
  replace x_a := x_a.aside (b' := false) (A' := none) (n' := 0) (c' := 0) (g := w.heap.size + 1) (by omega)
  replace x_p := x_p.aside (b' := false) (A' := none) (n' := 0) (c' := 0) (g := w.heap.size + 1) (by omega)
  replace h := h.put (b' := false) (A' := none) (n' := 0) (c' := 0) x_r
  replace hb := put_below (g := w.heap.size + 1) hb (by omega) (.bool false) (.slice none 0 0)
  replace x_r := x_r.put false none 0 0
  clear q_a q_r q_p
  generalize (v2.setCell ⟨w.heap.size + 1, 0, none⟩ (.bool false)).setCell ⟨w.heap.size + 1, 1, none⟩ (.slice none 0 0) = v3 at *
  have q_a := x_a.al
  have q_r := x_r.al
  have q_p := x_p.al
  replace x_a := x_a.aside (b' := false) (A' := none) (n' := 0) (c' := 0) (g := w.heap.size + 1 + 1) (by omega)
  replace x_r := x_r.aside (b' := false) (A' := none) (n' := 0) (c' := 0) (g := w.heap.size + 1 + 1) (by omega)
  replace h := h.put (b' := false) (A' := none) (n' := 0) (c' := 0) x_p
  replace hb := put_below (g := w.heap.size + 1 + 1) hb (by omega) (.bool false) (.slice none 0 0)
  replace x_p := x_p.put false none 0 0
  clear q_a q_r q_p
  generalize (v3.setCell ⟨w.heap.size + 1 + 1, 0, none⟩ (.bool false)).setCell ⟨w.heap.size + 1 + 1, 1, none⟩ (.slice none 0 0) = v4 at *
  have q_a := x_a.al
  have q_r := x_r.al
  have q_p := x_p.al
  skip
  refine bodyPost_ret (v := .tuple #[.agg #[.bool false, .slice none 0 0], .agg #[.bool false, .slice none 0 0], .int .i64 1]) (by simp [results, Try.results34, go_sem, q_r, q_p]) rfl ?_
  exact ⟨_, _, _, _, _, _, rfl, Zn.nul _ _, Zn.nul _ _, hb⟩

end Go.Proofs.Ytiikmjnnlckiiaa
