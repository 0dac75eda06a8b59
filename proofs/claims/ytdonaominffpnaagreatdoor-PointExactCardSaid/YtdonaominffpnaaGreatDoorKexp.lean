/-
 rows: Exp of the program.
-/
import Derived.Test.YtdonaominffpnaaGreatDoorKfiv
namespace Go.Proofs.YtdonaominffpnaaGreatDoor
set_option maxRecDepth 100000
set_option maxHeartbeats 16000000
set_option linter.unusedVariables false
open Go.RowKit
theorem KAtanh_yes {b : Bool} {A : Option Addr} {n c : Nat} {X : Int} {j : Nat} {w : World} (h : Zr w b A n c X j) (Q M : Nat) (hQ : Q ≤ 1200) (hM : 1 ≤ M ∧ M ≤ 400) (hX : 0 ≤ X ∧ 2 * X ≤ 1 * twP Q) (hj : j ≤ 20) :
  Calls Tryz.prog 232 #[.agg #[.bool b, .slice A n c], .int .i64 (Q : Nat), .int .i64 (M : Nat)] w (Ou2 w (rwLo 1 X Q M) (rwHi 1 X Q M) 0 25) := by
 have HMY := Lib.hid (ok_yes hQ hM hX)
 have HQS : Hid (1 * (2 : Int) ^ sc (Q : Int) = twP Q) := Lib.hid (by rw [tw_sc hQ]; omega)
 have htp := tw_pos Q
 have hbd : ∀ k, 0 ≤ taC X Q k ∧ taC X Q k ≤ taD X Q k ∧ taD X Q k ≤ twP Q := fun k => by have := ta_cd2 hX.1 (show X ≤ twP Q by omega) k; omega
 have BX : Hid (Si X 20) := Lib.hid (si1 hQ hX.1 (by omega))
 have HX := Lib.hid (show 0 ≤ X ∧ X ≤ twP Q by omega)
 have HF : Hid (∀ k, k ≤ M → Si (sumI (taC X Q) k) 20) := Lib.hid fun k hk => si_sum hQ (fun i => by have := hbd i; omega) (fun i => by have := hbd i; omega) k (by omega)
 have HG : Hid (∀ k, k ≤ M → Si (sumI (taD X Q) k) 20) := Lib.hid fun k hk => si_sum hQ (fun i => by have := hbd i; omega) (fun i => by have := hbd i; omega) k (by omega)
 obtain ⟨L, hL⟩ : ∃ L, rwLo 1 X Q M = L := ⟨_, rfl⟩
 obtain ⟨H, hH⟩ : ∃ H, rwHi 1 X Q M = H := ⟨_, rfl⟩
 have HL : Hid (sumI (taC X Q) M = L) := Lib.hid hL; have HH : Hid (sumI (taD X Q) M + (taD X Q M + taD X Q M) = H) := Lib.hid (by rw [← hH]; show _ = sumI (taD X Q) M + 2 * taD X Q M; omega)
 rw [hL, hH]
 have HLL := Lib.hid hL; have HHH := Lib.hid hH
 clear hbd hX htp hL hH
 go_enter Tryz.func232, Tryz.ntmps232
 go_upto_region 1 with fail
 have x_a : Bx (w.alloc (.cells #[.bool b, .slice A n c] 24)) (w.heap.size) b A n c := by have := Bx.new w b A n c; simpa using this
 replace x_a := x_a.alloc (.cells #[.bool false, .slice none 0 0] 24)
 have x_r : Bx ((w.alloc (.cells #[.bool b, .slice A n c] 24)).alloc (.cells #[.bool false, .slice none 0 0] 24)) (w.heap.size + 1) false none 0 0 := by have := Bx.new (w.alloc (.cells #[.bool b, .slice A n c] 24)) false none 0 0; simpa using this
 replace x_a := x_a.alloc (.cells #[.bool false, .slice none 0 0] 24)
 replace x_r := x_r.alloc (.cells #[.bool false, .slice none 0 0] 24)
 have x_p : Bx (((w.alloc (.cells #[.bool b, .slice A n c] 24)).alloc (.cells #[.bool false, .slice none 0 0] 24)).alloc (.cells #[.bool false, .slice none 0 0] 24)) (w.heap.size + 1 + 1) false none 0 0 := by have := Bx.new ((w.alloc (.cells #[.bool b, .slice A n c] 24)).alloc (.cells #[.bool false, .slice none 0 0] 24)) false none 0 0; simpa using this
 have hb : Below w.heap.size w (((w.alloc (.cells #[.bool b, .slice A n c] 24)).alloc (.cells #[.bool false, .slice none 0 0] 24)).alloc (.cells #[.bool false, .slice none 0 0] 24)) := (Below.alloc (Below.alloc (Below.alloc (Below.refl w.heap.size w) (by simp) (.cells #[.bool b, .slice A n c] 24)) (by simp) (.cells #[.bool false, .slice none 0 0] 24)) (by simp; omega) (.cells #[.bool false, .slice none 0 0] 24))
 generalize ((w.alloc (.cells #[.bool b, .slice A n c] 24)).alloc (.cells #[.bool false, .slice none 0 0] 24)).alloc (.cells #[.bool false, .slice none 0 0] 24) = v1 at *
 replace h := h.keep hb
 have q_a := x_a.al
 have q_r := x_r.al
 have q_p := x_p.al
 go_wp2_with fail
 with_reducible refine (Kallowed_any h Q M 1 (by omega) (by omega)).mono ?_
 rintro e v2 ⟨rfl, hb1⟩
 obtain ⟨x_a, x_r, x_p, h⟩ := mv4 hb1 x_a x_r x_p h
 replace hb := bthen hb hb1
 clear hb1
 replace q_a := x_a.al
 replace q_r := x_r.al
 replace q_p := x_p.al
 rw [HMY.out]
 replace h := h.upK (k := 20) hj
 go_wp2_with fail
 have hl9 := x_p.lt
 with_reducible refine (Kodds_any h Q 400 hQ HX.out (by omega)).mono ?_
 rintro e v3 ⟨fid2, caps2, P2, I2, B2, rfl, G2, hg2, hP2, hb1⟩
 obtain ⟨x_a, x_r, x_p, h⟩ := mv4 hb1 x_a x_r x_p h
 replace hb := bthen hb hb1
 clear hb1
 replace q_a := x_a.al
 replace q_r := x_r.al
 replace q_p := x_p.al
 go_wp2_with fail
 with_reducible refine (Ksum_any G2 hg2 M (by omega) (by omega) HF.out HG.out).mono ?_
 rintro e v4 ⟨A5, n5, c5, A6, n6, c6, rfl, z5, z6, hf⟩
 replace x_a := x_a.via hf (fun hq => by have := hP2 _ hq; omega)
 replace x_r := x_r.via hf (fun hq => by have := hP2 _ hq; omega)
 replace x_p := x_p.via hf (fun hq => by have := hP2 _ hq; omega)
 replace h := h.via hf
 replace hb := Fr.below hf hb hb.size (fun b hq => by have := hP2 b hq; omega)
 clear hf
 replace q_a := x_a.al
 replace q_r := x_r.al
 replace q_p := x_p.al
 rw [HL.out] at z5 ⊢; rw [HH.out] at z6 ⊢
 go_wp2_with fail
 with_reducible refine (Kends_any z5 z6).mono ?_
 rintro e v5 ⟨A9, n9, c9, A10, n10, c10, rfl, z9, z10, hb1⟩
 obtain ⟨x_a, x_r, x_p, h, z5, z6⟩ := mv6 hb1 x_a x_r x_p h z5 z6
 replace hb := bthen hb hb1
 clear hb1
 replace q_a := x_a.al
 replace q_r := x_r.al
 replace q_p := x_p.al
 go_wp2_with fail
 replace x_a := x_a.aside (b' := (ngB L)) (A' := A9) (n' := n9) (c' := c9) (g := w.heap.size + 1) (by omega)
 replace x_p := x_p.aside (b' := (ngB L)) (A' := A9) (n' := n9) (c' := c9) (g := w.heap.size + 1) (by omega)
 replace h := h.put (b' := (ngB L)) (A' := A9) (n' := n9) (c' := c9) x_r
 replace z5 := z5.put (b' := (ngB L)) (A' := A9) (n' := n9) (c' := c9) x_r
 replace z6 := z6.put (b' := (ngB L)) (A' := A9) (n' := n9) (c' := c9) x_r
 replace z9 := z9.put (b' := (ngB L)) (A' := A9) (n' := n9) (c' := c9) x_r
 replace z10 := z10.put (b' := (ngB L)) (A' := A9) (n' := n9) (c' := c9) x_r
 replace hb := put_below (g := w.heap.size + 1) hb (by omega) (.bool (ngB L)) (.slice A9 n9 c9)
 replace x_r := x_r.put (ngB L) A9 n9 c9
 clear q_a q_r q_p
 generalize (v5.setCell ⟨w.heap.size + 1, 0, none⟩ (.bool (ngB L))).setCell ⟨w.heap.size + 1, 1, none⟩ (.slice A9 n9 c9) = v6 at *
 have q_a := x_a.al
 have q_r := x_r.al
 have q_p := x_p.al
 replace x_a := x_a.aside (b' := (ngB H)) (A' := A10) (n' := n10) (c' := c10) (g := w.heap.size + 1 + 1) (by omega)
 replace x_r := x_r.aside (b' := (ngB H)) (A' := A10) (n' := n10) (c' := c10) (g := w.heap.size + 1 + 1) (by omega)
 replace h := h.put (b' := (ngB H)) (A' := A10) (n' := n10) (c' := c10) x_p
 replace z5 := z5.put (b' := (ngB H)) (A' := A10) (n' := n10) (c' := c10) x_p
 replace z6 := z6.put (b' := (ngB H)) (A' := A10) (n' := n10) (c' := c10) x_p
 replace z9 := z9.put (b' := (ngB H)) (A' := A10) (n' := n10) (c' := c10) x_p
 replace z10 := z10.put (b' := (ngB H)) (A' := A10) (n' := n10) (c' := c10) x_p
 replace hb := put_below (g := w.heap.size + 1 + 1) hb (by omega) (.bool (ngB H)) (.slice A10 n10 c10)
 replace x_p := x_p.put (ngB H) A10 n10 c10
 clear q_a q_r q_p
 generalize (v6.setCell ⟨w.heap.size + 1 + 1, 0, none⟩ (.bool (ngB H))).setCell ⟨w.heap.size + 1 + 1, 1, none⟩ (.slice A10 n10 c10) = v7 at *
 have q_a := x_a.al
 have q_r := x_r.al
 have q_p := x_p.al
 skip
 refine bodyPost_ret (v := .tuple #[.agg #[.bool (ngB L), .slice A9 n9 c9], .agg #[.bool (ngB H), .slice A10 n10 c10], .int .i64 0]) (by simp [results, Tryz.results232, go_sem, q_r, q_p]) rfl ?_
 exact ⟨_, _, _, _, _, _, rfl, z9, z10, hb⟩
end Go.Proofs.YtdonaominffpnaaGreatDoor
namespace Go.Proofs.YtdonaominffpnaaGreatDoor
set_option linter.unusedVariables false
open Go.RowKit
end Go.Proofs.YtdonaominffpnaaGreatDoor
namespace Go.Proofs.YtdonaominffpnaaGreatDoor
set_option maxRecDepth 100000
set_option maxHeartbeats 16000000
set_option linter.unusedVariables false
open Go.RowKit
theorem KExp_yes {b : Bool} {A : Option Addr} {n c : Nat} {X : Int} {j : Nat} {w : World} (h : Zr w b A n c X j) (Q M : Nat) (hQ : Q ≤ 1200) (hM : 1 ≤ M ∧ M ≤ 400) (hX : 0 ≤ X ∧ 2 * X ≤ 2 * twP Q) (hj : j ≤ 20) :
  Calls Tryz.prog 212 #[.agg #[.bool b, .slice A n c], .int .i64 (Q : Nat), .int .i64 (M : Nat)] w (Ou2 w (rwLo 0 X Q M) (rwHi 0 X Q M) 0 25) := by
 have HMY := Lib.hid (ok_yes hQ hM hX)
 have HQS : Hid (1 * (2 : Int) ^ sc (Q : Int) = twP Q) := Lib.hid (by rw [tw_sc hQ]; omega)
 have htp := tw_pos Q
 have hbd : ∀ k, 0 ≤ exU X Q k ∧ exU X Q k ≤ exV X Q k ∧ exV X Q k ≤ twP Q := fun k => by have := ex_bd hX.1 (show X ≤ twP Q by omega) k; omega
 have BX : Hid (Si X 20) := Lib.hid (si1 hQ hX.1 (by omega))
 have HU : Hid (∀ k, Si (exU X Q k) 20 ∧ Si (exV X Q k) 20) := Lib.hid fun k => by have := hbd k; exact ⟨si1 hQ (by omega) (by omega), si1 hQ (by omega) (by omega)⟩
 have BT : Hid (Si (twP Q) 20) := Lib.hid (si1 hQ (by omega) (by omega))
 have HF : Hid (∀ k, k ≤ M → Si (sumI (exU X Q) k) 20) := Lib.hid fun k hk => si_sum hQ (fun i => by have := hbd i; omega) (fun i => by have := hbd i; omega) k (by omega)
 have HG : Hid (∀ k, k ≤ M → Si (sumI (exV X Q) k) 20) := Lib.hid fun k hk => si_sum hQ (fun i => by have := hbd i; omega) (fun i => by have := hbd i; omega) k (by omega)
 obtain ⟨L, hL⟩ : ∃ L, rwLo 0 X Q M = L := ⟨_, rfl⟩
 obtain ⟨H, hH⟩ : ∃ H, rwHi 0 X Q M = H := ⟨_, rfl⟩
 have HL : Hid (sumI (exU X Q) M = L) := Lib.hid hL; have HH : Hid (sumI (exV X Q) M + (exV X Q M + exV X Q M) = H) := Lib.hid (by rw [← hH]; show _ = sumI (exV X Q) M + 2 * exV X Q M; omega)
 rw [hL, hH]
 have HLL := Lib.hid hL; have HHH := Lib.hid hH
 clear hbd hX htp hL hH
 go_enter Tryz.func212, Tryz.ntmps212
 go_upto_region 1 with fail
 have x_a : Bx (w.alloc (.cells #[.bool b, .slice A n c] 24)) (w.heap.size) b A n c := by have := Bx.new w b A n c; simpa using this
 replace x_a := x_a.alloc (.cells #[.int .i64 (Q : Nat)] 3)
 have x_q : Cx ((w.alloc (.cells #[.bool b, .slice A n c] 24)).alloc (.cells #[.int .i64 (Q : Nat)] 3)) (w.heap.size + 1) (.int .i64 (Q : Nat)) (3) := by have := Cx.new (w.alloc (.cells #[.bool b, .slice A n c] 24)) (.int .i64 (Q : Nat)) (3); simpa using this
 replace x_a := x_a.alloc (.cells #[.bool false, .slice none 0 0] 24)
 replace x_q := x_q.alloc (.cells #[.bool false, .slice none 0 0] 24)
 have x_r : Bx (((w.alloc (.cells #[.bool b, .slice A n c] 24)).alloc (.cells #[.int .i64 (Q : Nat)] 3)).alloc (.cells #[.bool false, .slice none 0 0] 24)) (w.heap.size + 1 + 1) false none 0 0 := by have := Bx.new ((w.alloc (.cells #[.bool b, .slice A n c] 24)).alloc (.cells #[.int .i64 (Q : Nat)] 3)) false none 0 0; simpa using this
 replace x_a := x_a.alloc (.cells #[.bool false, .slice none 0 0] 24)
 replace x_q := x_q.alloc (.cells #[.bool false, .slice none 0 0] 24)
 replace x_r := x_r.alloc (.cells #[.bool false, .slice none 0 0] 24)
 have x_p : Bx ((((w.alloc (.cells #[.bool b, .slice A n c] 24)).alloc (.cells #[.int .i64 (Q : Nat)] 3)).alloc (.cells #[.bool false, .slice none 0 0] 24)).alloc (.cells #[.bool false, .slice none 0 0] 24)) (w.heap.size + 1 + 1 + 1) false none 0 0 := by have := Bx.new (((w.alloc (.cells #[.bool b, .slice A n c] 24)).alloc (.cells #[.int .i64 (Q : Nat)] 3)).alloc (.cells #[.bool false, .slice none 0 0] 24)) false none 0 0; simpa using this
 have hb : Below w.heap.size w ((((w.alloc (.cells #[.bool b, .slice A n c] 24)).alloc (.cells #[.int .i64 (Q : Nat)] 3)).alloc (.cells #[.bool false, .slice none 0 0] 24)).alloc (.cells #[.bool false, .slice none 0 0] 24)) := (Below.alloc (Below.alloc (Below.alloc (Below.alloc (Below.refl w.heap.size w) (by simp) (.cells #[.bool b, .slice A n c] 24)) (by simp) (.cells #[.int .i64 (Q : Nat)] 3)) (by simp; omega) (.cells #[.bool false, .slice none 0 0] 24)) (by simp; omega) (.cells #[.bool false, .slice none 0 0] 24))
 generalize (((w.alloc (.cells #[.bool b, .slice A n c] 24)).alloc (.cells #[.int .i64 (Q : Nat)] 3)).alloc (.cells #[.bool false, .slice none 0 0] 24)).alloc (.cells #[.bool false, .slice none 0 0] 24) = v1 at *
 replace h := h.keep hb
 have q_a := x_a.al
 have q_q := x_q.al
 have q_r := x_r.al
 have q_p := x_p.al
 go_wp2_with fail
 with_reducible refine (Kallowed_any h Q M 2 (by omega) (by omega)).mono ?_
 rintro e v2 ⟨rfl, hb1⟩
 obtain ⟨x_a, x_q, x_r, x_p, h⟩ := mv5 hb1 x_a x_q x_r x_p h
 replace hb := bthen hb hb1
 clear hb1
 replace q_a := x_a.al
 replace q_q := x_q.al
 replace q_r := x_r.al
 replace q_p := x_p.al
 rw [HMY.out]
 replace h := h.upK (k := 20) hj
 go_upto_region 3 with fail
 have hgq := gs_q x_q
 go_region_held3 (fun w' => w'.cell? ⟨w.heap.size, 0, none⟩ = some (.bool b) ∧ w'.cell? ⟨w.heap.size, 1, none⟩ = some (.slice A n c) ∧ w'.cell? ⟨w.heap.size + 1, 0, none⟩ = some (.int .i64 (Q : Nat)))
  (first | (with_reducible exact ⟨x_a.drew.c0, x_a.drew.c1, x_q.drew.c0⟩) | (with_reducible exact ⟨x_a.c0, x_a.c1, x_q.c0⟩))
  (first | (go_at_call 225; (with_reducible refine (Kone_any Q).mono ?_); rintro e v3 ⟨A8, n8, c8, rfl, z8, hb1⟩; replace hb1 := undrew hb1; obtain ⟨x_a, x_q, x_r, x_p, h, hgq⟩ := mv6 hb1 x_a x_q x_r x_p h hgq; replace hb := bthen hb hb1; clear hb1; replace q_a := x_a.al; replace q_q := x_q.al; replace q_r := x_r.al; replace q_p := x_p.al; rw [HQS.out] at z8 ⊢; replace z8 := z8.slim BT.out; have hl9 := x_p.lt) | (go_at_call 224; (with_reducible refine (Kterms_Exp z8.zr (h.upK (k := 40) (by omega)) hQ hgq 400 HU.out (by omega)).mono ?_); rintro e v4 ⟨fid2, caps2, P2, I2, B2, rfl, G2, hg2, hP2, hb1⟩; obtain ⟨x_a, x_q, x_r, x_p, h, hgq, z8⟩ := mv7 hb1 x_a x_q x_r x_p h hgq z8; replace hb := bthen hb hb1; clear hb1; replace q_a := x_a.al; replace q_q := x_q.al; replace q_r := x_r.al; replace q_p := x_p.al))
 all_goals
  go_wp2_with fail
  with_reducible refine (Ksum_any G2 hg2 M (by omega) (by omega) HF.out HG.out).mono ?_
  rintro e v5 ⟨A5, n5, c5, A6, n6, c6, rfl, z5, z6, hf⟩
  replace x_a := x_a.via hf (fun hq => by have := hP2 _ hq; omega)
  replace x_q := x_q.via hf (fun hq => by have := hP2 _ hq; omega)
  replace x_r := x_r.via hf (fun hq => by have := hP2 _ hq; omega)
  replace x_p := x_p.via hf (fun hq => by have := hP2 _ hq; omega)
  replace h := h.via hf
  clear hgq
  replace z8 := z8.via hf
  replace hb := Fr.below hf hb hb.size (fun b hq => by have := hP2 b hq; omega)
  clear hf
  replace q_a := x_a.al
  replace q_q := x_q.al
  replace q_r := x_r.al
  replace q_p := x_p.al
  rw [HL.out] at z5 ⊢; rw [HH.out] at z6 ⊢
  go_wp2_with fail
  with_reducible refine (Kends_any z5 z6).mono ?_
  rintro e v6 ⟨A9, n9, c9, A10, n10, c10, rfl, z9, z10, hb1⟩
  obtain ⟨x_a, x_q, x_r, x_p, h, z8, z5, z6⟩ := mv8 hb1 x_a x_q x_r x_p h z8 z5 z6
  replace hb := bthen hb hb1
  clear hb1
  replace q_a := x_a.al
  replace q_q := x_q.al
  replace q_r := x_r.al
  replace q_p := x_p.al
  go_wp2_with fail
  replace x_a := x_a.aside (b' := (ngB L)) (A' := A9) (n' := n9) (c' := c9) (g := w.heap.size + 1 + 1) (by omega)
  replace x_q := x_q.aside (b' := (ngB L)) (A' := A9) (n' := n9) (c' := c9) (g := w.heap.size + 1 + 1) (by omega)
  replace x_p := x_p.aside (b' := (ngB L)) (A' := A9) (n' := n9) (c' := c9) (g := w.heap.size + 1 + 1) (by omega)
  replace h := h.put (b' := (ngB L)) (A' := A9) (n' := n9) (c' := c9) x_r
  replace z8 := z8.put (b' := (ngB L)) (A' := A9) (n' := n9) (c' := c9) x_r
  replace z5 := z5.put (b' := (ngB L)) (A' := A9) (n' := n9) (c' := c9) x_r
  replace z6 := z6.put (b' := (ngB L)) (A' := A9) (n' := n9) (c' := c9) x_r
  replace z9 := z9.put (b' := (ngB L)) (A' := A9) (n' := n9) (c' := c9) x_r
  replace z10 := z10.put (b' := (ngB L)) (A' := A9) (n' := n9) (c' := c9) x_r
  replace hb := put_below (g := w.heap.size + 1 + 1) hb (by omega) (.bool (ngB L)) (.slice A9 n9 c9)
  replace x_r := x_r.put (ngB L) A9 n9 c9
  clear q_a q_q q_r q_p
  generalize (v6.setCell ⟨w.heap.size + 1 + 1, 0, none⟩ (.bool (ngB L))).setCell ⟨w.heap.size + 1 + 1, 1, none⟩ (.slice A9 n9 c9) = v7 at *
  have q_a := x_a.al
  have q_q := x_q.al
  have q_r := x_r.al
  have q_p := x_p.al
  replace x_a := x_a.aside (b' := (ngB H)) (A' := A10) (n' := n10) (c' := c10) (g := w.heap.size + 1 + 1 + 1) (by omega)
  replace x_q := x_q.aside (b' := (ngB H)) (A' := A10) (n' := n10) (c' := c10) (g := w.heap.size + 1 + 1 + 1) (by omega)
  replace x_r := x_r.aside (b' := (ngB H)) (A' := A10) (n' := n10) (c' := c10) (g := w.heap.size + 1 + 1 + 1) (by omega)
  replace h := h.put (b' := (ngB H)) (A' := A10) (n' := n10) (c' := c10) x_p
  replace z8 := z8.put (b' := (ngB H)) (A' := A10) (n' := n10) (c' := c10) x_p
  replace z5 := z5.put (b' := (ngB H)) (A' := A10) (n' := n10) (c' := c10) x_p
  replace z6 := z6.put (b' := (ngB H)) (A' := A10) (n' := n10) (c' := c10) x_p
  replace z9 := z9.put (b' := (ngB H)) (A' := A10) (n' := n10) (c' := c10) x_p
  replace z10 := z10.put (b' := (ngB H)) (A' := A10) (n' := n10) (c' := c10) x_p
  replace hb := put_below (g := w.heap.size + 1 + 1 + 1) hb (by omega) (.bool (ngB H)) (.slice A10 n10 c10)
  replace x_p := x_p.put (ngB H) A10 n10 c10
  clear q_a q_q q_r q_p
  generalize (v7.setCell ⟨w.heap.size + 1 + 1 + 1, 0, none⟩ (.bool (ngB H))).setCell ⟨w.heap.size + 1 + 1 + 1, 1, none⟩ (.slice A10 n10 c10) = v8 at *
  have q_a := x_a.al
  have q_q := x_q.al
  have q_r := x_r.al
  have q_p := x_p.al
  skip
  refine bodyPost_ret (v := .tuple #[.agg #[.bool (ngB L), .slice A9 n9 c9], .agg #[.bool (ngB H), .slice A10 n10 c10], .int .i64 0]) (by simp [results, Tryz.results212, go_sem, q_r, q_p]) rfl ?_
  exact ⟨_, _, _, _, _, _, rfl, z9, z10, hb⟩
end Go.Proofs.YtdonaominffpnaaGreatDoor
