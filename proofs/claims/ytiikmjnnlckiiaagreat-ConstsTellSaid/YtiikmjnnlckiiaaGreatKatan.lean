/-
 rows: Atan of the program.
-/
import Derived.Test.YtiikmjnnlckiiaaGreatQdef
namespace Go.Proofs.YtiikmjnnlckiiaaGreat
open Go.RowKit
set_option linter.unusedVariables false

set_option maxRecDepth 100000 in
set_option maxHeartbeats 16000000 in
theorem KAtanh_yes {b : Bool} {A : Option Addr} {n c : Nat} {X : Int} {j : Nat} {w : World} (h : Zr w b A n c X j) (Q M : Nat) (hQ : Q ≤ 1200) (hM : 1 ≤ M ∧ M ≤ 400) (hX : 0 ≤ X ∧ 2 * X ≤ 1 * twP Q) (hj : j ≤ 20) :
  Calls Tryz.prog 30 #[.agg #[.bool b, .slice A n c], .int .i64 (Q : Nat), .int .i64 (M : Nat)] w (Ou2 w (rwLo 1 X Q M) (rwHi 1 X Q M) 0 25) := by
 have HMY := Lib.hid (ok_yes hQ hM hX)
 have HQS : Hid (1 * (2 : Int) ^ sc (Q : Int) = twP Q) := Lib.hid (by rw [tw_sc hQ]; omega)
 have htp := tw_pos Q
 have hbd : ∀ k, 0 ≤ taC X Q k ∧ taC X Q k ≤ taD X Q k ∧ taD X Q k ≤ twP Q := fun k => by have := ta_cd2 hX.1 (show X ≤ twP Q by omega) k; omega
 have BX : Hid (Si X 20) := Lib.hid (si1 hQ hX.1 (by omega))
 have HX := Lib.hid (show 0 ≤ X ∧ X ≤ twP Q by omega)
 have HF : Hid (∀ k, k ≤ M → Si (sumI (taC X Q) k) 20) := Lib.hid fun k hk => si_sum hQ (fun i => by have := hbd i; omega) (fun i => by have := hbd i; omega) k (by omega)
 have HG : Hid (∀ k, k ≤ M → Si (sumI (taD X Q) k) 20) := Lib.hid fun k hk => si_sum hQ (fun i => by have := hbd i; omega) (fun i => by have := hbd i; omega) k (by omega)
 obtain ⟨L, hL⟩ : ∃ L, rwLo 1 X Q M = L := ⟨_, rfl⟩
 obtain ⟨H, hH⟩ : ∃ H, rwHi 1 X Q M = H := ⟨_, rfl⟩
 have HL : Hid (sumI (taC X Q) M = L) := Lib.hid hL; have HH : Hid (sumI (taD X Q) M + (taD X Q M + taD X Q M) = H) := Lib.hid (by rw [← hH]; show _ = sumI (taD X Q) M + 2 * taD X Q M; omega)
 rw [hL, hH]
 have HLL := Lib.hid hL; have HHH := Lib.hid hH
 clear hbd hX htp hL hH
 go_enter Tryz.func30, Tryz.ntmps30
 go_upto_region 1 with fail
 have x_a : Bx (w.alloc (.cells #[.bool b, .slice A n c] 25)) (w.heap.size) b A n c := by have := Bx.new w b A n c; simpa using this
 replace x_a := x_a.alloc (.cells #[.bool false, .slice none 0 0] 25)
 have x_r : Bx ((w.alloc (.cells #[.bool b, .slice A n c] 25)).alloc (.cells #[.bool false, .slice none 0 0] 25)) (w.heap.size + 1) false none 0 0 := by have := Bx.new (w.alloc (.cells #[.bool b, .slice A n c] 25)) false none 0 0; simpa using this
 replace x_a := x_a.alloc (.cells #[.bool false, .slice none 0 0] 25)
 replace x_r := x_r.alloc (.cells #[.bool false, .slice none 0 0] 25)
 have x_p : Bx (((w.alloc (.cells #[.bool b, .slice A n c] 25)).alloc (.cells #[.bool false, .slice none 0 0] 25)).alloc (.cells #[.bool false, .slice none 0 0] 25)) (w.heap.size + 1 + 1) false none 0 0 := by have := Bx.new ((w.alloc (.cells #[.bool b, .slice A n c] 25)).alloc (.cells #[.bool false, .slice none 0 0] 25)) false none 0 0; simpa using this
 have hb : Below w.heap.size w (((w.alloc (.cells #[.bool b, .slice A n c] 25)).alloc (.cells #[.bool false, .slice none 0 0] 25)).alloc (.cells #[.bool false, .slice none 0 0] 25)) := (Below.alloc (Below.alloc (Below.alloc (Below.refl w.heap.size w) (by simp) (.cells #[.bool b, .slice A n c] 25)) (by simp) (.cells #[.bool false, .slice none 0 0] 25)) (by simp; omega) (.cells #[.bool false, .slice none 0 0] 25))
 generalize ((w.alloc (.cells #[.bool b, .slice A n c] 25)).alloc (.cells #[.bool false, .slice none 0 0] 25)).alloc (.cells #[.bool false, .slice none 0 0] 25) = v1 at *
 replace h := h.keep hb
 have q_a := x_a.al
 have q_r := x_r.al
 have q_p := x_p.al
 go_wp2_with fail
 with_reducible refine (Kallowed_any h Q M 1 (by omega) (by omega)).mono ?_
 rintro e v2 ⟨rfl, hb1⟩
 obtain ⟨x_a, x_r, x_p, h⟩ := mv4 hb1 x_a x_r x_p h
 replace hb := bthen hb hb1
 clear hb1
 replace q_a := x_a.al
 replace q_r := x_r.al
 replace q_p := x_p.al
 rw [HMY.out]
 replace h := h.upK (k := 20) hj
 go_wp2_with fail
 have hl9 := x_p.lt
 with_reducible refine (Kodds_any h Q 400 hQ HX.out (by omega)).mono ?_
 rintro e v3 ⟨fid2, caps2, P2, I2, B2, rfl, G2, hg2, hP2, hb1⟩
 obtain ⟨x_a, x_r, x_p, h⟩ := mv4 hb1 x_a x_r x_p h
 replace hb := bthen hb hb1
 clear hb1
 replace q_a := x_a.al
 replace q_r := x_r.al
 replace q_p := x_p.al
 go_wp2_with fail
 with_reducible refine (Ksum_any G2 hg2 M (by omega) (by omega) HF.out HG.out).mono ?_
 rintro e v4 ⟨A5, n5, c5, A6, n6, c6, rfl, z5, z6, hf⟩
 replace x_a := x_a.via hf (fun hq => by have := hP2 _ hq; omega)
 replace x_r := x_r.via hf (fun hq => by have := hP2 _ hq; omega)
 replace x_p := x_p.via hf (fun hq => by have := hP2 _ hq; omega)
 replace h := h.via hf
 replace hb := Fr.below hf hb hb.size (fun b hq => by have := hP2 b hq; omega)
 clear hf
 replace q_a := x_a.al
 replace q_r := x_r.al
 replace q_p := x_p.al
 rw [HL.out] at z5 ⊢; rw [HH.out] at z6 ⊢
 go_wp2_with fail
 with_reducible refine (Kends_any z5 z6).mono ?_
 rintro e v5 ⟨A9, n9, c9, A10, n10, c10, rfl, z9, z10, hb1⟩
 obtain ⟨x_a, x_r, x_p, h, z5, z6⟩ := mv6 hb1 x_a x_r x_p h z5 z6
 replace hb := bthen hb hb1
 clear hb1
 replace q_a := x_a.al
 replace q_r := x_r.al
 replace q_p := x_p.al
 go_wp2_with fail
 replace x_a := x_a.aside (b' := (ngB L)) (A' := A9) (n' := n9) (c' := c9) (g := w.heap.size + 1) (by omega)
 replace x_p := x_p.aside (b' := (ngB L)) (A' := A9) (n' := n9) (c' := c9) (g := w.heap.size + 1) (by omega)
 replace h := h.put (b' := (ngB L)) (A' := A9) (n' := n9) (c' := c9) x_r
 replace z5 := z5.put (b' := (ngB L)) (A' := A9) (n' := n9) (c' := c9) x_r
 replace z6 := z6.put (b' := (ngB L)) (A' := A9) (n' := n9) (c' := c9) x_r
 replace z9 := z9.put (b' := (ngB L)) (A' := A9) (n' := n9) (c' := c9) x_r
 replace z10 := z10.put (b' := (ngB L)) (A' := A9) (n' := n9) (c' := c9) x_r
 replace hb := put_below (g := w.heap.size + 1) hb (by omega) (.bool (ngB L)) (.slice A9 n9 c9)
 replace x_r := x_r.put (ngB L) A9 n9 c9
 clear q_a q_r q_p
 generalize (v5.setCell ⟨w.heap.size + 1, 0, none⟩ (.bool (ngB L))).setCell ⟨w.heap.size + 1, 1, none⟩ (.slice A9 n9 c9) = v6 at *
 have q_a := x_a.al
 have q_r := x_r.al
 have q_p := x_p.al
 replace x_a := x_a.aside (b' := (ngB H)) (A' := A10) (n' := n10) (c' := c10) (g := w.heap.size + 1 + 1) (by omega)
 replace x_r := x_r.aside (b' := (ngB H)) (A' := A10) (n' := n10) (c' := c10) (g := w.heap.size + 1 + 1) (by omega)
 replace h := h.put (b' := (ngB H)) (A' := A10) (n' := n10) (c' := c10) x_p
 replace z5 := z5.put (b' := (ngB H)) (A' := A10) (n' := n10) (c' := c10) x_p
 replace z6 := z6.put (b' := (ngB H)) (A' := A10) (n' := n10) (c' := c10) x_p
 replace z9 := z9.put (b' := (ngB H)) (A' := A10) (n' := n10) (c' := c10) x_p
 replace z10 := z10.put (b' := (ngB H)) (A' := A10) (n' := n10) (c' := c10) x_p
 replace hb := put_below (g := w.heap.size + 1 + 1) hb (by omega) (.bool (ngB H)) (.slice A10 n10 c10)
 replace x_p := x_p.put (ngB H) A10 n10 c10
 clear q_a q_r q_p
 generalize (v6.setCell ⟨w.heap.size + 1 + 1, 0, none⟩ (.bool (ngB H))).setCell ⟨w.heap.size + 1 + 1, 1, none⟩ (.slice A10 n10 c10) = v7 at *
 have q_a := x_a.al
 have q_r := x_r.al
 have q_p := x_p.al
 skip
 refine bodyPost_ret (v := .tuple #[.agg #[.bool (ngB L), .slice A9 n9 c9], .agg #[.bool (ngB H), .slice A10 n10 c10], .int .i64 0]) (by simp [results, Tryz.results30, go_sem, q_r, q_p]) rfl ?_
 exact ⟨_, _, _, _, _, _, rfl, z9, z10, hb⟩

end Go.Proofs.YtiikmjnnlckiiaaGreat
namespace Go.Proofs.YtiikmjnnlckiiaaGreat
open Go.RowKit
set_option linter.unusedVariables false

set_option maxRecDepth 100000 in
set_option maxHeartbeats 16000000 in
theorem KAtan_yes {b : Bool} {A : Option Addr} {n c : Nat} {X : Int} {j : Nat} {w : World} (h : Zr w b A n c X j) (Q M : Nat) (hQ : Q ≤ 1200) (hM : 1 ≤ M ∧ M ≤ 400) (hX : 0 ≤ X ∧ 2 * X ≤ 1 * twP Q) (hj : j ≤ 20) :
  Calls Tryz.prog 45 #[.agg #[.bool b, .slice A n c], .int .i64 (Q : Nat), .int .i64 (M : Nat)] w (Ou2 w (rwLo 2 X Q M) (rwHi 2 X Q M) 0 25) := by
 have HMY := Lib.hid (ok_yes hQ hM hX)
 have HQS : Hid (1 * (2 : Int) ^ sc (Q : Int) = twP Q) := Lib.hid (by rw [tw_sc hQ]; omega)
 have htp := tw_pos Q
 have hbd : ∀ k, 0 ≤ taC X Q k ∧ taC X Q k ≤ taD X Q k ∧ taD X Q k ≤ 2 * twP Q := fun k => by have := ta_cd2 hX.1 (show X ≤ twP Q by omega) k; omega
 have BX : Hid (Si X 20) := Lib.hid (si1 hQ hX.1 (by omega))
 have HX := Lib.hid (show 0 ≤ X ∧ X ≤ twP Q by omega)
 have HF : Hid (∀ k, k ≤ 2 * M → Si (altI (taC X Q) (taD X Q) k) 20) := Lib.hid fun k hk => si_alt hQ (fun i => by have := hbd i; omega) (fun i => by have := hbd i; omega) (fun i => by have := hbd i; omega) (fun i => by have := hbd i; omega) k (by omega)
 have HG : Hid (∀ k, k ≤ 2 * M → Si (altI (taD X Q) (taC X Q) k) 20) := Lib.hid fun k hk => si_alt hQ (fun i => by have := hbd i; omega) (fun i => by have := hbd i; omega) (fun i => by have := hbd i; omega) (fun i => by have := hbd i; omega) k (by omega)
 obtain ⟨L, hL⟩ : ∃ L, rwLo 2 X Q M = L := ⟨_, rfl⟩
 obtain ⟨H, hH⟩ : ∃ H, rwHi 2 X Q M = H := ⟨_, rfl⟩
 have HL : Hid (altI (taC X Q) (taD X Q) (2 * M) = L) := Lib.hid hL; have HH : Hid (altI (taD X Q) (taC X Q) (2 * M + 1) = H) := Lib.hid hH
 rw [hL, hH]
 have HLL := Lib.hid hL; have HHH := Lib.hid hH
 clear hbd hX htp hL hH
 go_enter Tryz.func45, Tryz.ntmps45
 go_upto_region 1 with fail
 have x_a : Bx (w.alloc (.cells #[.bool b, .slice A n c] 25)) (w.heap.size) b A n c := by have := Bx.new w b A n c; simpa using this
 replace x_a := x_a.alloc (.cells #[.bool false, .slice none 0 0] 25)
 have x_r : Bx ((w.alloc (.cells #[.bool b, .slice A n c] 25)).alloc (.cells #[.bool false, .slice none 0 0] 25)) (w.heap.size + 1) false none 0 0 := by have := Bx.new (w.alloc (.cells #[.bool b, .slice A n c] 25)) false none 0 0; simpa using this
 replace x_a := x_a.alloc (.cells #[.bool false, .slice none 0 0] 25)
 replace x_r := x_r.alloc (.cells #[.bool false, .slice none 0 0] 25)
 have x_p : Bx (((w.alloc (.cells #[.bool b, .slice A n c] 25)).alloc (.cells #[.bool false, .slice none 0 0] 25)).alloc (.cells #[.bool false, .slice none 0 0] 25)) (w.heap.size + 1 + 1) false none 0 0 := by have := Bx.new ((w.alloc (.cells #[.bool b, .slice A n c] 25)).alloc (.cells #[.bool false, .slice none 0 0] 25)) false none 0 0; simpa using this
 have hb : Below w.heap.size w (((w.alloc (.cells #[.bool b, .slice A n c] 25)).alloc (.cells #[.bool false, .slice none 0 0] 25)).alloc (.cells #[.bool false, .slice none 0 0] 25)) := (Below.alloc (Below.alloc (Below.alloc (Below.refl w.heap.size w) (by simp) (.cells #[.bool b, .slice A n c] 25)) (by simp) (.cells #[.bool false, .slice none 0 0] 25)) (by simp; omega) (.cells #[.bool false, .slice none 0 0] 25))
 generalize ((w.alloc (.cells #[.bool b, .slice A n c] 25)).alloc (.cells #[.bool false, .slice none 0 0] 25)).alloc (.cells #[.bool false, .slice none 0 0] 25) = v1 at *
 replace h := h.keep hb
 have q_a := x_a.al
 have q_r := x_r.al
 have q_p := x_p.al
 go_wp2_with fail
 with_reducible refine (Kallowed_any h Q M 1 (by omega) (by omega)).mono ?_
 rintro e v2 ⟨rfl, hb1⟩
 obtain ⟨x_a, x_r, x_p, h⟩ := mv4 hb1 x_a x_r x_p h
 replace hb := bthen hb hb1
 clear hb1
 replace q_a := x_a.al
 replace q_r := x_r.al
 replace q_p := x_p.al
 rw [HMY.out]
 replace h := h.upK (k := 20) hj
 go_wp2_with fail
 have hl9 := x_p.lt
 with_reducible refine (Kodds_any h Q 800 hQ HX.out (by omega)).mono ?_
 rintro e v3 ⟨fid2, caps2, P2, I2, B2, rfl, G2, hg2, hP2, hb1⟩
 obtain ⟨x_a, x_r, x_p, h⟩ := mv4 hb1 x_a x_r x_p h
 replace hb := bthen hb hb1
 clear hb1
 replace q_a := x_a.al
 replace q_r := x_r.al
 replace q_p := x_p.al
 go_wp2_with fail
 with_reducible refine (Kalt_any G2 hg2 M (by omega) (by omega) HF.out HG.out).mono ?_
 rintro e v4 ⟨A5, n5, c5, A6, n6, c6, rfl, z5, z6, hf⟩
 replace x_a := x_a.via hf (fun hq => by have := hP2 _ hq; omega)
 replace x_r := x_r.via hf (fun hq => by have := hP2 _ hq; omega)
 replace x_p := x_p.via hf (fun hq => by have := hP2 _ hq; omega)
 replace h := h.via hf
 replace hb := Fr.below hf hb hb.size (fun b hq => by have := hP2 b hq; omega)
 clear hf
 replace q_a := x_a.al
 replace q_r := x_r.al
 replace q_p := x_p.al
 rw [HL.out] at z5 ⊢; rw [HH.out] at z6 ⊢
 go_wp2_with fail
 with_reducible refine (Kends_any z5 z6).mono ?_
 rintro e v5 ⟨A9, n9, c9, A10, n10, c10, rfl, z9, z10, hb1⟩
 obtain ⟨x_a, x_r, x_p, h, z5, z6⟩ := mv6 hb1 x_a x_r x_p h z5 z6
 replace hb := bthen hb hb1
 clear hb1
 replace q_a := x_a.al
 replace q_r := x_r.al
 replace q_p := x_p.al
 go_wp2_with fail
 replace x_a := x_a.aside (b' := (ngB L)) (A' := A9) (n' := n9) (c' := c9) (g := w.heap.size + 1) (by omega)
 replace x_p := x_p.aside (b' := (ngB L)) (A' := A9) (n' := n9) (c' := c9) (g := w.heap.size + 1) (by omega)
 replace h := h.put (b' := (ngB L)) (A' := A9) (n' := n9) (c' := c9) x_r
 replace z5 := z5.put (b' := (ngB L)) (A' := A9) (n' := n9) (c' := c9) x_r
 replace z6 := z6.put (b' := (ngB L)) (A' := A9) (n' := n9) (c' := c9) x_r
 replace z9 := z9.put (b' := (ngB L)) (A' := A9) (n' := n9) (c' := c9) x_r
 replace z10 := z10.put (b' := (ngB L)) (A' := A9) (n' := n9) (c' := c9) x_r
 replace hb := put_below (g := w.heap.size + 1) hb (by omega) (.bool (ngB L)) (.slice A9 n9 c9)
 replace x_r := x_r.put (ngB L) A9 n9 c9
 clear q_a q_r q_p
 generalize (v5.setCell ⟨w.heap.size + 1, 0, none⟩ (.bool (ngB L))).setCell ⟨w.heap.size + 1, 1, none⟩ (.slice A9 n9 c9) = v6 at *
 have q_a := x_a.al
 have q_r := x_r.al
 have q_p := x_p.al
 replace x_a := x_a.aside (b' := (ngB H)) (A' := A10) (n' := n10) (c' := c10) (g := w.heap.size + 1 + 1) (by omega)
 replace x_r := x_r.aside (b' := (ngB H)) (A' := A10) (n' := n10) (c' := c10) (g := w.heap.size + 1 + 1) (by omega)
 replace h := h.put (b' := (ngB H)) (A' := A10) (n' := n10) (c' := c10) x_p
 replace z5 := z5.put (b' := (ngB H)) (A' := A10) (n' := n10) (c' := c10) x_p
 replace z6 := z6.put (b' := (ngB H)) (A' := A10) (n' := n10) (c' := c10) x_p
 replace z9 := z9.put (b' := (ngB H)) (A' := A10) (n' := n10) (c' := c10) x_p
 replace z10 := z10.put (b' := (ngB H)) (A' := A10) (n' := n10) (c' := c10) x_p
 replace hb := put_below (g := w.heap.size + 1 + 1) hb (by omega) (.bool (ngB H)) (.slice A10 n10 c10)
 replace x_p := x_p.put (ngB H) A10 n10 c10
 clear q_a q_r q_p
 generalize (v6.setCell ⟨w.heap.size + 1 + 1, 0, none⟩ (.bool (ngB H))).setCell ⟨w.heap.size + 1 + 1, 1, none⟩ (.slice A10 n10 c10) = v7 at *
 have q_a := x_a.al
 have q_r := x_r.al
 have q_p := x_p.al
 skip
 refine bodyPost_ret (v := .tuple #[.agg #[.bool (ngB L), .slice A9 n9 c9], .agg #[.bool (ngB H), .slice A10 n10 c10], .int .i64 0]) (by simp [results, Tryz.results45, go_sem, q_r, q_p]) rfl ?_
 exact ⟨_, _, _, _, _, _, rfl, z9, z10, hb⟩

end Go.Proofs.YtiikmjnnlckiiaaGreat
