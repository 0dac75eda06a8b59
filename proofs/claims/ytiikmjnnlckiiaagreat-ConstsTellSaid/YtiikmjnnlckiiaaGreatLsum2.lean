/-
 ball: Add, Sub; errors.
-/
import Derived.Test.YtiikmjnnlckiiaaGreatLcomb
import Derived.Shelf.Abstract
namespace Go.Proofs.YtiikmjnnlckiiaaGreat
open Go.RowKit
set_option linter.unusedVariables false

theorem ent_SubN : ∀ (args : Array Value) (w : World), (callFunc 83 args).run Tryz.prog w = .ok (.enter 83 args) w := enters_of Tryz.func83 (by kernel_rfl) rfl
theorem ent_DivN : ∀ (args : Array Value) (w : World), (callFunc 131 args).run Tryz.prog w = .ok (.enter 131 args) w := enters_of Tryz.func131 (by kernel_rfl) rfl
/-- Does a valid ball contain 0? -/
def hzB (U V : Int) : Bool := decide (U ≤ 0 ∧ 0 ≤ V)
set_option maxRecDepth 100000 in
set_option maxHeartbeats 2000000 in
theorem hasZero_any {b b2 : Bool} {A A2 : Option Addr} {n c n2 c2 : Nat} {X Y q : Int} {j j2 : Nat} {w : World} (h : Zr w b A n c X j) (h2 : Zr w b2 A2 n2 c2 Y j2) (hj : j ≤ 1000000) (hj2 : j2 ≤ 1000000) :
  Calls Tryz.prog 130 #[.agg #[.bool b, .slice A n c, .bool b2, .slice A2 n2 c2, .int .i64 q]] w fun e w' => e = .returned (.bool (hzB X Y)) ∧ Below w.heap.size w w' := by
 have i1 := sgnI_gt0 (X := X); have i2 := sgnI_lt0 (X := Y)
 obtain ⟨C1, hC1⟩ : ∃ C, sgnI X = C := ⟨_, rfl⟩
 obtain ⟨C2, hC2⟩ : ∃ C, sgnI Y = C := ⟨_, rfl⟩
 rw [hC1] at i1; rw [hC2] at i2
 have HC1 := Lib.hid hC1; have HC2 := Lib.hid hC2; clear hC1 hC2
 by_cases d1 : C1 ≤ 0
 ·by_cases d2 : 0 ≤ C2
  ·have HF : Hid (hzB X Y = true) := Lib.hid (by unfold hzB; exact decide_eq_true ⟨by omega, by omega⟩)
   clear i1 i2
   go_enter Tryz.func130, Tryz.ntmps130
   go_wp2_with fail
   have x_a : Lx (w.alloc (.cells #[.bool b, .slice A n c, .bool b2, .slice A2 n2 c2, .int .i64 q] 27)) (w.heap.size) b A n c b2 A2 n2 c2 q := by have := Lx.new w b A n c b2 A2 n2 c2 q; simpa using this
   have hb : Below w.heap.size w (w.alloc (.cells #[.bool b, .slice A n c, .bool b2, .slice A2 n2 c2, .int .i64 q] 27)) := (Below.alloc (Below.refl w.heap.size w) (by simp) (.cells #[.bool b, .slice A n c, .bool b2, .slice A2 n2 c2, .int .i64 q] 27))
   generalize w.alloc (.cells #[.bool b, .slice A n c, .bool b2, .slice A2 n2 c2, .int .i64 q] 27) = v1 at *
   obtain ⟨h, h2⟩ := mv2 hb h h2
   have q_a := x_a.al
   go_wp2_with fail
   with_reducible refine (ZSign_any h hj).mono ?_
   rintro e v2 ⟨rfl, hb1⟩
   obtain ⟨x_a, h, h2⟩ := mv3 hb1 x_a h h2
   replace hb := bthen hb hb1
   clear hb1
   replace q_a := x_a.al
   rw [HC1.out]
   go_wp2_with fail
   with_reducible refine (ZSign_any h2 hj2).mono ?_
   rintro e v3 ⟨rfl, hb1⟩
   obtain ⟨x_a, h, h2⟩ := mv3 hb1 x_a h h2
   replace hb := bthen hb hb1
   clear hb1
   replace q_a := x_a.al
   rw [HC2.out]
   go_wp2
   go_ret
   exact ⟨qB_bool HF.out.symm, hb⟩
  ·have HF : Hid (hzB X Y = false) := Lib.hid (by unfold hzB; exact dec_no (by omega))
   clear i1 i2
   go_enter Tryz.func130, Tryz.ntmps130
   go_wp2_with fail
   have x_a : Lx (w.alloc (.cells #[.bool b, .slice A n c, .bool b2, .slice A2 n2 c2, .int .i64 q] 27)) (w.heap.size) b A n c b2 A2 n2 c2 q := by have := Lx.new w b A n c b2 A2 n2 c2 q; simpa using this
   have hb : Below w.heap.size w (w.alloc (.cells #[.bool b, .slice A n c, .bool b2, .slice A2 n2 c2, .int .i64 q] 27)) := (Below.alloc (Below.refl w.heap.size w) (by simp) (.cells #[.bool b, .slice A n c, .bool b2, .slice A2 n2 c2, .int .i64 q] 27))
   generalize w.alloc (.cells #[.bool b, .slice A n c, .bool b2, .slice A2 n2 c2, .int .i64 q] 27) = v1 at *
   obtain ⟨h, h2⟩ := mv2 hb h h2
   have q_a := x_a.al
   go_wp2_with fail
   with_reducible refine (ZSign_any h hj).mono ?_
   rintro e v2 ⟨rfl, hb1⟩
   obtain ⟨x_a, h, h2⟩ := mv3 hb1 x_a h h2
   replace hb := bthen hb hb1
   clear hb1
   replace q_a := x_a.al
   rw [HC1.out]
   go_wp2_with fail
   with_reducible refine (ZSign_any h2 hj2).mono ?_
   rintro e v3 ⟨rfl, hb1⟩
   obtain ⟨x_a, h, h2⟩ := mv3 hb1 x_a h h2
   replace hb := bthen hb hb1
   clear hb1
   replace q_a := x_a.al
   rw [HC2.out]
   go_wp2
   go_ret
   exact ⟨qB_bool ((dec_no (p := 0 ≤ C2) (by omega)).trans HF.out.symm), hb⟩
 ·have HF : Hid (hzB X Y = false) := Lib.hid (by unfold hzB; exact dec_no (by omega))
  clear i1 i2
  go_enter Tryz.func130, Tryz.ntmps130
  go_wp2_with fail
  have x_a : Lx (w.alloc (.cells #[.bool b, .slice A n c, .bool b2, .slice A2 n2 c2, .int .i64 q] 27)) (w.heap.size) b A n c b2 A2 n2 c2 q := by have := Lx.new w b A n c b2 A2 n2 c2 q; simpa using this
  have hb : Below w.heap.size w (w.alloc (.cells #[.bool b, .slice A n c, .bool b2, .slice A2 n2 c2, .int .i64 q] 27)) := (Below.alloc (Below.refl w.heap.size w) (by simp) (.cells #[.bool b, .slice A n c, .bool b2, .slice A2 n2 c2, .int .i64 q] 27))
  generalize w.alloc (.cells #[.bool b, .slice A n c, .bool b2, .slice A2 n2 c2, .int .i64 q] 27) = v1 at *
  obtain ⟨h, h2⟩ := mv2 hb h h2
  have q_a := x_a.al
  go_wp2_with fail
  with_reducible refine (ZSign_any h hj).mono ?_
  rintro e v2 ⟨rfl, hb1⟩
  obtain ⟨x_a, h, h2⟩ := mv3 hb1 x_a h h2
  replace hb := bthen hb hb1
  clear hb1
  replace q_a := x_a.al
  rw [HC1.out]
  go_wp2
  go_ret
  exact ⟨qB_bool HF.out.symm, hb⟩

set_option maxRecDepth 100000 in
set_option maxHeartbeats 4000000 in
theorem LDiv_any {b b2 b3 b4 : Bool} {A A2 A3 A4 : Option Addr} {n c n2 c2 n3 c3 n4 c4 : Nat} {X Y U V q : Int} {j j2 j3 j4 : Nat} {w : World} (h : Zr w b A n c X j) (h2 : Zr w b2 A2 n2 c2 Y j2) (h3 : Zr w b3 A3 n3 c3 U j3) (h4 : Zr w b4 A4 n4 c4 V j4) (hv : 0 ≤ q ∧ q ≤ 2048 ∧ X ≤ Y) (hv2 : U ≤ V) (h0 : U ≠ 0 ∧ V ≠ 0 ∧ ¬ (U ≤ 0 ∧ 0 ≤ V)) (J : Nat) (hj : j ≤ J) (hj2 : j2 ≤ J) (hj3 : j3 ≤ J) (hj4 : j4 ≤ J) (K : Nat) (hK : J + 130 ≤ K) (hK2 : K ≤ 1000000) :
  Calls Tryz.prog 98 #[.agg #[.bool b, .slice A n c, .bool b2, .slice A2 n2 c2, .int .i64 q], .agg #[.bool b3, .slice A3 n3 c3, .bool b4, .slice A4 n4 c4, .int .i64 q]] w (OuL w (mn4 (fun x y => fdI (x * 2 ^ q.toNat) y) X Y U V) (mx4 (fun x y => cdI (x * 2 ^ q.toNat) y) X Y U V) q K) := by
 obtain ⟨M0, hM0⟩ : ∃ M, mn4 (fun x y => fdI (x * 2 ^ q.toNat) y) X Y U V = M := ⟨_, rfl⟩
 obtain ⟨N0, hN0⟩ : ∃ N, mx4 (fun x y => cdI (x * 2 ^ q.toNat) y) X Y U V = N := ⟨_, rfl⟩
 rw [hM0, hN0]
 have HM0 := Lib.hid hM0; have HN0 := Lib.hid hN0; clear hM0 hN0
 have HV := Lib.hid hv; have HV2 := Lib.hid hv2; have hq : 0 ≤ q ∧ q ≤ 2048 := ⟨hv.1, hv.2.1⟩
 have HMT := Lib.hid (mtB_yes (r := q) ⟨hv, ⟨hv.1, hv.2.1, hv2⟩, rfl⟩)
 have HH0 := Lib.hid h0
 have HZ : Hid (hzB U V = false) := Lib.hid (by unfold hzB; exact dec_no h0.2.2)
 clear h0
 clear hv hv2
 go_enter Tryz.func98, Tryz.ntmps98
 go_wp2_with fail
 have x_a : Lx (w.alloc (.cells #[.bool b, .slice A n c, .bool b2, .slice A2 n2 c2, .int .i64 q] 27)) (w.heap.size) b A n c b2 A2 n2 c2 q := by have := Lx.new w b A n c b2 A2 n2 c2 q; simpa using this
 replace x_a := x_a.alloc (.cells #[.bool b3, .slice A3 n3 c3, .bool b4, .slice A4 n4 c4, .int .i64 q] 27)
 have x_d : Lx ((w.alloc (.cells #[.bool b, .slice A n c, .bool b2, .slice A2 n2 c2, .int .i64 q] 27)).alloc (.cells #[.bool b3, .slice A3 n3 c3, .bool b4, .slice A4 n4 c4, .int .i64 q] 27)) (w.heap.size + 1) b3 A3 n3 c3 b4 A4 n4 c4 q := by have := Lx.new (w.alloc (.cells #[.bool b, .slice A n c, .bool b2, .slice A2 n2 c2, .int .i64 q] 27)) b3 A3 n3 c3 b4 A4 n4 c4 q; simpa using this
 replace x_a := x_a.alloc (.cells #[.bool false, .slice none 0 0, .bool false, .slice none 0 0, .int .i64 0] 27)
 replace x_d := x_d.alloc (.cells #[.bool false, .slice none 0 0, .bool false, .slice none 0 0, .int .i64 0] 27)
 have x_r : Lx (((w.alloc (.cells #[.bool b, .slice A n c, .bool b2, .slice A2 n2 c2, .int .i64 q] 27)).alloc (.cells #[.bool b3, .slice A3 n3 c3, .bool b4, .slice A4 n4 c4, .int .i64 q] 27)).alloc (.cells #[.bool false, .slice none 0 0, .bool false, .slice none 0 0, .int .i64 0] 27)) (w.heap.size + 1 + 1) false none 0 0 false none 0 0 0 := by have := Lx.new ((w.alloc (.cells #[.bool b, .slice A n c, .bool b2, .slice A2 n2 c2, .int .i64 q] 27)).alloc (.cells #[.bool b3, .slice A3 n3 c3, .bool b4, .slice A4 n4 c4, .int .i64 q] 27)) false none 0 0 false none 0 0 0; simpa using this
 have hb : Below w.heap.size w (((w.alloc (.cells #[.bool b, .slice A n c, .bool b2, .slice A2 n2 c2, .int .i64 q] 27)).alloc (.cells #[.bool b3, .slice A3 n3 c3, .bool b4, .slice A4 n4 c4, .int .i64 q] 27)).alloc (.cells #[.bool false, .slice none 0 0, .bool false, .slice none 0 0, .int .i64 0] 27)) := (Below.alloc (Below.alloc (Below.alloc (Below.refl w.heap.size w) (by simp) (.cells #[.bool b, .slice A n c, .bool b2, .slice A2 n2 c2, .int .i64 q] 27)) (by simp) (.cells #[.bool b3, .slice A3 n3 c3, .bool b4, .slice A4 n4 c4, .int .i64 q] 27)) (by simp; omega) (.cells #[.bool false, .slice none 0 0, .bool false, .slice none 0 0, .int .i64 0] 27))
 generalize ((w.alloc (.cells #[.bool b, .slice A n c, .bool b2, .slice A2 n2 c2, .int .i64 q] 27)).alloc (.cells #[.bool b3, .slice A3 n3 c3, .bool b4, .slice A4 n4 c4, .int .i64 q] 27)).alloc (.cells #[.bool false, .slice none 0 0, .bool false, .slice none 0 0, .int .i64 0] 27) = v1 at *
 obtain ⟨h, h2, h3, h4⟩ := mv4 hb h h2 h3 h4
 have q_a := x_a.al
 have q_d := x_d.al
 have q_r := x_r.al
 go_wp2_with fail
 with_reducible refine (matching_any h h2 h3 h4 (by omega) (by omega) (by omega) (by omega)).mono ?_
 rintro e v2 ⟨rfl, hb1⟩
 obtain ⟨x_a, x_d, x_r, h, h2, h3, h4⟩ := mv7 hb1 x_a x_d x_r h h2 h3 h4
 replace hb := bthen hb hb1
 clear hb1
 replace q_a := x_a.al
 replace q_d := x_d.al
 replace q_r := x_r.al
 rw [HMT.out]
 go_wp2_with fail
 with_reducible refine (hasZero_any h3 h4 (by omega) (by omega)).mono ?_
 rintro e v3 ⟨rfl, hb1⟩
 obtain ⟨x_a, x_d, x_r, h, h2, h3, h4⟩ := mv7 hb1 x_a x_d x_r h h2 h3 h4
 replace hb := bthen hb hb1
 clear hb1
 replace q_a := x_a.al
 replace q_d := x_d.al
 replace q_r := x_r.al
 rw [HZ.out]
 go_wp2_with fail
 have hcall := combine_any h h2 h3 h4 HV.out HV2.out (fid := 131) (caps := #[.pointer (some ⟨w.heap.size, 0, none⟩)]) ent_DivN (fun x y => fdI (x * 2 ^ q.toNat) y) (fun x y => cdI (x * 2 ^ q.toNat) y) J K hj hj2 hj3 hj4 (by omega) hK2 (fun w' b A n c b2 A2 n2 c2 x y hbw g1 g2 hy => by simpa using atDiv_any g1 g2 (x_a.keep hbw) hq (by have := HH0.out; rcases hy with rfl | rfl; exact this.1; exact this.2.1) K (by omega) (by omega) hK2)
 rw [HM0.out, HN0.out] at hcall
 have HCALL := Lib.hid hcall; clear hcall
 clear q_a
 clear q_d
 skip
 with_reducible refine (HCALL.out).mono ?_
 rintro e v4 ⟨A5, n5, c5, A6, n6, c6, rfl, z5, z6, hb1⟩
 obtain ⟨x_a, x_d, x_r, h, h2, h3, h4⟩ := mv7 hb1 x_a x_d x_r h h2 h3 h4
 replace hb := bthen hb hb1
 clear hb1
 replace q_r := x_r.al
 clear HCALL
 go_wp2
 replace x_a := x_a.asideL (b' := (ngB M0)) (A' := A5) (n' := n5) (c' := c5) (p' := (ngB N0)) (B' := A6) (m' := n6) (d' := c6) (e' := q) (g := w.heap.size + 1 + 1) (by omega)
 replace x_d := x_d.asideL (b' := (ngB M0)) (A' := A5) (n' := n5) (c' := c5) (p' := (ngB N0)) (B' := A6) (m' := n6) (d' := c6) (e' := q) (g := w.heap.size + 1 + 1) (by omega)
 replace h := h.putL (b' := (ngB M0)) (A' := A5) (n' := n5) (c' := c5) (p' := (ngB N0)) (B' := A6) (m' := n6) (d' := c6) (e' := q) x_r
 replace h2 := h2.putL (b' := (ngB M0)) (A' := A5) (n' := n5) (c' := c5) (p' := (ngB N0)) (B' := A6) (m' := n6) (d' := c6) (e' := q) x_r
 replace h3 := h3.putL (b' := (ngB M0)) (A' := A5) (n' := n5) (c' := c5) (p' := (ngB N0)) (B' := A6) (m' := n6) (d' := c6) (e' := q) x_r
 replace h4 := h4.putL (b' := (ngB M0)) (A' := A5) (n' := n5) (c' := c5) (p' := (ngB N0)) (B' := A6) (m' := n6) (d' := c6) (e' := q) x_r
 replace z5 := z5.putL (b' := (ngB M0)) (A' := A5) (n' := n5) (c' := c5) (p' := (ngB N0)) (B' := A6) (m' := n6) (d' := c6) (e' := q) x_r
 replace z6 := z6.putL (b' := (ngB M0)) (A' := A5) (n' := n5) (c' := c5) (p' := (ngB N0)) (B' := A6) (m' := n6) (d' := c6) (e' := q) x_r
 replace hb := put_belowL (g := w.heap.size + 1 + 1) hb (by omega) (.bool (ngB M0)) (.slice A5 n5 c5) (.bool (ngB N0)) (.slice A6 n6 c6) (.int .i64 q)
 replace x_r := x_r.put (ngB M0) A5 n5 c5 (ngB N0) A6 n6 c6 q
 clear q_r
 generalize ((((v4.setCell ⟨w.heap.size + 1 + 1, 0, none⟩ (.bool (ngB M0))).setCell ⟨w.heap.size + 1 + 1, 1, none⟩ (.slice A5 n5 c5)).setCell ⟨w.heap.size + 1 + 1, 2, none⟩ (.bool (ngB N0))).setCell ⟨w.heap.size + 1 + 1, 3, none⟩ (.slice A6 n6 c6)).setCell ⟨w.heap.size + 1 + 1, 4, none⟩ (.int .i64 q) = v5 at *
 have q_r := x_r.al
 refine bodyPost_ret (v := .tuple #[.agg #[.bool (ngB M0), .slice A5 n5 c5, .bool (ngB N0), .slice A6 n6 c6, .int .i64 q], .int .i64 0]) (by simp [results, Tryz.results98, go_sem, q_r]) rfl ?_
 exact ⟨_, _, _, _, _, _, rfl, z5, z6, hb⟩

end Go.Proofs.YtiikmjnnlckiiaaGreat
namespace Go.Proofs.YtiikmjnnlckiiaaGreat
open Go.RowKit
set_option linter.unusedVariables false

set_option maxRecDepth 100000 in
set_option maxHeartbeats 4000000 in
theorem LSub_any {b b2 b3 b4 : Bool} {A A2 A3 A4 : Option Addr} {n c n2 c2 n3 c3 n4 c4 : Nat} {X Y U V q : Int} {j j2 j3 j4 : Nat} {w : World} (h : Zr w b A n c X j) (h2 : Zr w b2 A2 n2 c2 Y j2) (h3 : Zr w b3 A3 n3 c3 U j3) (h4 : Zr w b4 A4 n4 c4 V j4) (hv : 0 ≤ q ∧ q ≤ 2048 ∧ X ≤ Y) (hv2 : U ≤ V) (J : Nat) (hj : j ≤ J) (hj2 : j2 ≤ J) (hj3 : j3 ≤ J) (hj4 : j4 ≤ J) (K : Nat) (hK : J + 1 ≤ K) (hK2 : K ≤ 1000000) :
  Calls Tryz.prog 46 #[.agg #[.bool b, .slice A n c, .bool b2, .slice A2 n2 c2, .int .i64 q], .agg #[.bool b3, .slice A3 n3 c3, .bool b4, .slice A4 n4 c4, .int .i64 q]] w (OuL w (mn4 (fun x y => x - y) X Y U V) (mx4 (fun x y => x - y) X Y U V) q K) := by
 obtain ⟨M0, hM0⟩ : ∃ M, mn4 (fun x y => x - y) X Y U V = M := ⟨_, rfl⟩
 obtain ⟨N0, hN0⟩ : ∃ N, mx4 (fun x y => x - y) X Y U V = N := ⟨_, rfl⟩
 rw [hM0, hN0]
 have HM0 := Lib.hid hM0; have HN0 := Lib.hid hN0; clear hM0 hN0
 have HV := Lib.hid hv; have HV2 := Lib.hid hv2; have hq : 0 ≤ q ∧ q ≤ 2048 := ⟨hv.1, hv.2.1⟩
 clear hv hv2
 go_enter Tryz.func46, Tryz.ntmps46
 go_wp2_with fail
 have x_a : Lx (w.alloc (.cells #[.bool b, .slice A n c, .bool b2, .slice A2 n2 c2, .int .i64 q] 27)) (w.heap.size) b A n c b2 A2 n2 c2 q := by have := Lx.new w b A n c b2 A2 n2 c2 q; simpa using this
 replace x_a := x_a.alloc (.cells #[.bool b3, .slice A3 n3 c3, .bool b4, .slice A4 n4 c4, .int .i64 q] 27)
 have x_d : Lx ((w.alloc (.cells #[.bool b, .slice A n c, .bool b2, .slice A2 n2 c2, .int .i64 q] 27)).alloc (.cells #[.bool b3, .slice A3 n3 c3, .bool b4, .slice A4 n4 c4, .int .i64 q] 27)) (w.heap.size + 1) b3 A3 n3 c3 b4 A4 n4 c4 q := by have := Lx.new (w.alloc (.cells #[.bool b, .slice A n c, .bool b2, .slice A2 n2 c2, .int .i64 q] 27)) b3 A3 n3 c3 b4 A4 n4 c4 q; simpa using this
 replace x_a := x_a.alloc (.cells #[.bool false, .slice none 0 0, .bool false, .slice none 0 0, .int .i64 0] 27)
 replace x_d := x_d.alloc (.cells #[.bool false, .slice none 0 0, .bool false, .slice none 0 0, .int .i64 0] 27)
 have x_r : Lx (((w.alloc (.cells #[.bool b, .slice A n c, .bool b2, .slice A2 n2 c2, .int .i64 q] 27)).alloc (.cells #[.bool b3, .slice A3 n3 c3, .bool b4, .slice A4 n4 c4, .int .i64 q] 27)).alloc (.cells #[.bool false, .slice none 0 0, .bool false, .slice none 0 0, .int .i64 0] 27)) (w.heap.size + 1 + 1) false none 0 0 false none 0 0 0 := by have := Lx.new ((w.alloc (.cells #[.bool b, .slice A n c, .bool b2, .slice A2 n2 c2, .int .i64 q] 27)).alloc (.cells #[.bool b3, .slice A3 n3 c3, .bool b4, .slice A4 n4 c4, .int .i64 q] 27)) false none 0 0 false none 0 0 0; simpa using this
 have hb : Below w.heap.size w (((w.alloc (.cells #[.bool b, .slice A n c, .bool b2, .slice A2 n2 c2, .int .i64 q] 27)).alloc (.cells #[.bool b3, .slice A3 n3 c3, .bool b4, .slice A4 n4 c4, .int .i64 q] 27)).alloc (.cells #[.bool false, .slice none 0 0, .bool false, .slice none 0 0, .int .i64 0] 27)) := (Below.alloc (Below.alloc (Below.alloc (Below.refl w.heap.size w) (by simp) (.cells #[.bool b, .slice A n c, .bool b2, .slice A2 n2 c2, .int .i64 q] 27)) (by simp) (.cells #[.bool b3, .slice A3 n3 c3, .bool b4, .slice A4 n4 c4, .int .i64 q] 27)) (by simp; omega) (.cells #[.bool false, .slice none 0 0, .bool false, .slice none 0 0, .int .i64 0] 27))
 generalize ((w.alloc (.cells #[.bool b, .slice A n c, .bool b2, .slice A2 n2 c2, .int .i64 q] 27)).alloc (.cells #[.bool b3, .slice A3 n3 c3, .bool b4, .slice A4 n4 c4, .int .i64 q] 27)).alloc (.cells #[.bool false, .slice none 0 0, .bool false, .slice none 0 0, .int .i64 0] 27) = v1 at *
 obtain ⟨h, h2, h3, h4⟩ := mv4 hb h h2 h3 h4
 have q_a := x_a.al
 have q_d := x_d.al
 have q_r := x_r.al
 go_wp2_with fail
 have hcall := combine_any h h2 h3 h4 HV.out HV2.out (fid := 83) (caps := #[]) ent_SubN (fun x y => x - y) (fun x y => x - y) J K hj hj2 hj3 hj4 (by omega) hK2 (fun w' b A n c b2 A2 n2 c2 x y _ g1 g2 _ => by simpa using atSub_any g1 g2 K (by omega) (by omega) hK2)
 rw [HM0.out, HN0.out] at hcall
 have HCALL := Lib.hid hcall; clear hcall
 clear q_a
 clear q_d
 skip
 with_reducible refine (HCALL.out).mono ?_
 rintro e v2 ⟨A5, n5, c5, A6, n6, c6, rfl, z5, z6, hb1⟩
 obtain ⟨x_a, x_d, x_r, h, h2, h3, h4⟩ := mv7 hb1 x_a x_d x_r h h2 h3 h4
 replace hb := bthen hb hb1
 clear hb1
 replace q_r := x_r.al
 clear HCALL
 go_wp2
 replace x_a := x_a.asideL (b' := (ngB M0)) (A' := A5) (n' := n5) (c' := c5) (p' := (ngB N0)) (B' := A6) (m' := n6) (d' := c6) (e' := q) (g := w.heap.size + 1 + 1) (by omega)
 replace x_d := x_d.asideL (b' := (ngB M0)) (A' := A5) (n' := n5) (c' := c5) (p' := (ngB N0)) (B' := A6) (m' := n6) (d' := c6) (e' := q) (g := w.heap.size + 1 + 1) (by omega)
 replace h := h.putL (b' := (ngB M0)) (A' := A5) (n' := n5) (c' := c5) (p' := (ngB N0)) (B' := A6) (m' := n6) (d' := c6) (e' := q) x_r
 replace h2 := h2.putL (b' := (ngB M0)) (A' := A5) (n' := n5) (c' := c5) (p' := (ngB N0)) (B' := A6) (m' := n6) (d' := c6) (e' := q) x_r
 replace h3 := h3.putL (b' := (ngB M0)) (A' := A5) (n' := n5) (c' := c5) (p' := (ngB N0)) (B' := A6) (m' := n6) (d' := c6) (e' := q) x_r
 replace h4 := h4.putL (b' := (ngB M0)) (A' := A5) (n' := n5) (c' := c5) (p' := (ngB N0)) (B' := A6) (m' := n6) (d' := c6) (e' := q) x_r
 replace z5 := z5.putL (b' := (ngB M0)) (A' := A5) (n' := n5) (c' := c5) (p' := (ngB N0)) (B' := A6) (m' := n6) (d' := c6) (e' := q) x_r
 replace z6 := z6.putL (b' := (ngB M0)) (A' := A5) (n' := n5) (c' := c5) (p' := (ngB N0)) (B' := A6) (m' := n6) (d' := c6) (e' := q) x_r
 replace hb := put_belowL (g := w.heap.size + 1 + 1) hb (by omega) (.bool (ngB M0)) (.slice A5 n5 c5) (.bool (ngB N0)) (.slice A6 n6 c6) (.int .i64 q)
 replace x_r := x_r.put (ngB M0) A5 n5 c5 (ngB N0) A6 n6 c6 q
 clear q_r
 generalize ((((v2.setCell ⟨w.heap.size + 1 + 1, 0, none⟩ (.bool (ngB M0))).setCell ⟨w.heap.size + 1 + 1, 1, none⟩ (.slice A5 n5 c5)).setCell ⟨w.heap.size + 1 + 1, 2, none⟩ (.bool (ngB N0))).setCell ⟨w.heap.size + 1 + 1, 3, none⟩ (.slice A6 n6 c6)).setCell ⟨w.heap.size + 1 + 1, 4, none⟩ (.int .i64 q) = v3 at *
 have q_r := x_r.al
 refine bodyPost_ret (v := .tuple #[.agg #[.bool (ngB M0), .slice A5 n5 c5, .bool (ngB N0), .slice A6 n6 c6, .int .i64 q], .int .i64 0]) (by simp [results, Tryz.results46, go_sem, q_r]) rfl ?_
 exact ⟨_, _, _, _, _, _, rfl, z5, z6, hb⟩

end Go.Proofs.YtiikmjnnlckiiaaGreat
