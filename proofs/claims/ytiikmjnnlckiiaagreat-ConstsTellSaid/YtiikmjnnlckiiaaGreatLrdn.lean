/-
 the document's answers for ball: Down, Over, Equal.
-/
import Derived.Test.YtiikmjnnlckiiaaGreatLref0
import Derived.Test.YtiikmjnnlckiiaaGreatLpoint
namespace Go.Proofs.YtiikmjnnlckiiaaGreat
open Go.RowKit
set_option linter.unusedVariables false

set_option maxRecDepth 100000 in
set_option maxHeartbeats 2000000 in
theorem RDown_any {b : Bool} {A : Option Addr} {n c : Nat} {X : Int} {j : Nat} {w : World} (h : Zr w b A n c X j) (i : Int) (hi : -8000 ≤ i ∧ i ≤ 8000) (k : Nat) (hk : j + 130 ≤ k) (hj : k ≤ 100000) :
  Calls Tryz.prog 43 #[.agg #[.bool b, .slice A n c], .int .i64 i] w (OutZ w (flI X (-i)) k) := by
 obtain ⟨L, hL⟩ : ∃ L, flI X (-i) = L := ⟨_, rfl⟩
 rw [hL]
 rcases Int.lt_or_le i 0 with o1 | o1
 ·have HL := Lib.hid ((fl_shl (X := X) o1 hi.1).trans hL)
  clear hL
  have hwr : IntKind.i64.wrap (-i) = -i := wrap_in (by omega) (by omega)
  go_enter Tryz.func43, Tryz.ntmps43
  go_wp2_with fail
  have x_a : Bx (w.alloc (.cells #[.bool b, .slice A n c] 25)) (w.heap.size) b A n c := by have := Bx.new w b A n c; simpa using this
  replace x_a := x_a.alloc (.cells #[.bool false, .slice none 0 0] 25)
  have x_r : Bx ((w.alloc (.cells #[.bool b, .slice A n c] 25)).alloc (.cells #[.bool false, .slice none 0 0] 25)) (w.heap.size + 1) false none 0 0 := by have := Bx.new (w.alloc (.cells #[.bool b, .slice A n c] 25)) false none 0 0; simpa using this
  have hb : Below w.heap.size w ((w.alloc (.cells #[.bool b, .slice A n c] 25)).alloc (.cells #[.bool false, .slice none 0 0] 25)) := (Below.alloc (Below.alloc (Below.refl w.heap.size w) (by simp) (.cells #[.bool b, .slice A n c] 25)) (by simp) (.cells #[.bool false, .slice none 0 0] 25))
  generalize (w.alloc (.cells #[.bool b, .slice A n c] 25)).alloc (.cells #[.bool false, .slice none 0 0] 25) = v1 at *
  replace h := h.keep hb
  have q_a := x_a.al
  have q_r := x_r.al
  go_wp2_with fail
  with_reducible refine (RShlZ_any h (-i) k (by omega) hj).mono ?_
  rintro e v2 ⟨A5, n5, c5, rfl, z5, hb1⟩
  obtain ⟨x_a, x_r, h⟩ := mv3 hb1 x_a x_r h
  replace hb := bthen hb hb1
  clear hb1
  replace q_a := x_a.al
  replace q_r := x_r.al
  rw [HL.out] at z5 ⊢
  go_wp2
  replace x_a := x_a.aside (b' := (ngB L)) (A' := A5) (n' := n5) (c' := c5) (g := w.heap.size + 1) (by omega)
  replace h := h.put (b' := (ngB L)) (A' := A5) (n' := n5) (c' := c5) x_r
  replace z5 := z5.put (b' := (ngB L)) (A' := A5) (n' := n5) (c' := c5) x_r
  replace hb := put_below (g := w.heap.size + 1) hb (by omega) (.bool (ngB L)) (.slice A5 n5 c5)
  replace x_r := x_r.put (ngB L) A5 n5 c5
  clear q_a q_r
  generalize (v2.setCell ⟨w.heap.size + 1, 0, none⟩ (.bool (ngB L))).setCell ⟨w.heap.size + 1, 1, none⟩ (.slice A5 n5 c5) = v3 at *
  have q_a := x_a.al
  have q_r := x_r.al
  refine bodyPost_ret (v := .agg #[.bool (ngB L), .slice A5 n5 c5]) (by simp [results, Tryz.results43, go_sem, q_r]) rfl ?_
  exact ⟨_, _, _, rfl, z5, hb⟩
 ·have HL := Lib.hid ((fl_shr (X := X) o1 hi.2).trans hL)
  clear hL
  have o2 : ¬ i < 0 := by omega
  go_enter Tryz.func43, Tryz.ntmps43
  go_wp2_with fail
  have x_a : Bx (w.alloc (.cells #[.bool b, .slice A n c] 25)) (w.heap.size) b A n c := by have := Bx.new w b A n c; simpa using this
  replace x_a := x_a.alloc (.cells #[.bool false, .slice none 0 0] 25)
  have x_r : Bx ((w.alloc (.cells #[.bool b, .slice A n c] 25)).alloc (.cells #[.bool false, .slice none 0 0] 25)) (w.heap.size + 1) false none 0 0 := by have := Bx.new (w.alloc (.cells #[.bool b, .slice A n c] 25)) false none 0 0; simpa using this
  have hb : Below w.heap.size w ((w.alloc (.cells #[.bool b, .slice A n c] 25)).alloc (.cells #[.bool false, .slice none 0 0] 25)) := (Below.alloc (Below.alloc (Below.refl w.heap.size w) (by simp) (.cells #[.bool b, .slice A n c] 25)) (by simp) (.cells #[.bool false, .slice none 0 0] 25))
  generalize (w.alloc (.cells #[.bool b, .slice A n c] 25)).alloc (.cells #[.bool false, .slice none 0 0] 25) = v1 at *
  replace h := h.keep hb
  have q_a := x_a.al
  have q_r := x_r.al
  go_wp2_with fail
  with_reducible refine (RShrZ_any h i k hk hj).mono ?_
  rintro e v2 ⟨A5, n5, c5, rfl, z5, hb1⟩
  obtain ⟨x_a, x_r, h⟩ := mv3 hb1 x_a x_r h
  replace hb := bthen hb hb1
  clear hb1
  replace q_a := x_a.al
  replace q_r := x_r.al
  rw [HL.out] at z5 ⊢
  go_wp2
  replace x_a := x_a.aside (b' := (ngB L)) (A' := A5) (n' := n5) (c' := c5) (g := w.heap.size + 1) (by omega)
  replace h := h.put (b' := (ngB L)) (A' := A5) (n' := n5) (c' := c5) x_r
  replace z5 := z5.put (b' := (ngB L)) (A' := A5) (n' := n5) (c' := c5) x_r
  replace hb := put_below (g := w.heap.size + 1) hb (by omega) (.bool (ngB L)) (.slice A5 n5 c5)
  replace x_r := x_r.put (ngB L) A5 n5 c5
  clear q_a q_r
  generalize (v2.setCell ⟨w.heap.size + 1, 0, none⟩ (.bool (ngB L))).setCell ⟨w.heap.size + 1, 1, none⟩ (.slice A5 n5 c5) = v3 at *
  have q_a := x_a.al
  have q_r := x_r.al
  refine bodyPost_ret (v := .agg #[.bool (ngB L), .slice A5 n5 c5]) (by simp [results, Tryz.results43, go_sem, q_r]) rfl ?_
  exact ⟨_, _, _, rfl, z5, hb⟩

set_option maxRecDepth 100000 in
set_option maxHeartbeats 2000000 in
theorem ROver_any {b : Bool} {A : Option Addr} {n c : Nat} {X : Int} {j : Nat} {w : World} (h : Zr w b A n c X j) (i : Int) (hi : -8000 ≤ i ∧ i ≤ 8000) (k : Nat) (hk : j + 130 ≤ k) (hj : k ≤ 100000) :
  Calls Tryz.prog 44 #[.agg #[.bool b, .slice A n c], .int .i64 i] w (OutZ w (-flI (-X) (-i)) k) := by
 go_enter Tryz.func44, Tryz.ntmps44
 go_wp2_with fail
 have x_a : Bx (w.alloc (.cells #[.bool b, .slice A n c] 25)) (w.heap.size) b A n c := by have := Bx.new w b A n c; simpa using this
 replace x_a := x_a.alloc (.cells #[.bool false, .slice none 0 0] 25)
 have x_r : Bx ((w.alloc (.cells #[.bool b, .slice A n c] 25)).alloc (.cells #[.bool false, .slice none 0 0] 25)) (w.heap.size + 1) false none 0 0 := by have := Bx.new (w.alloc (.cells #[.bool b, .slice A n c] 25)) false none 0 0; simpa using this
 have hb : Below w.heap.size w ((w.alloc (.cells #[.bool b, .slice A n c] 25)).alloc (.cells #[.bool false, .slice none 0 0] 25)) := (Below.alloc (Below.alloc (Below.refl w.heap.size w) (by simp) (.cells #[.bool b, .slice A n c] 25)) (by simp) (.cells #[.bool false, .slice none 0 0] 25))
 generalize (w.alloc (.cells #[.bool b, .slice A n c] 25)).alloc (.cells #[.bool false, .slice none 0 0] 25) = v1 at *
 replace h := h.keep hb
 have q_a := x_a.al
 have q_r := x_r.al
 go_wp2_with fail
 with_reducible refine (RNegZ_any h j (Nat.le_refl _) (by omega)).mono ?_
 rintro e v2 ⟨A5, n5, c5, rfl, z5, hb1⟩
 obtain ⟨x_a, x_r, h⟩ := mv3 hb1 x_a x_r h
 replace hb := bthen hb hb1
 clear hb1
 replace q_a := x_a.al
 replace q_r := x_r.al
 go_wp2_with fail
 with_reducible refine (RDown_any z5.zr i hi k hk hj).mono ?_
 rintro e v3 ⟨A6, n6, c6, rfl, z6, hb1⟩
 obtain ⟨x_a, x_r, h, z5⟩ := mv4 hb1 x_a x_r h z5
 replace hb := bthen hb hb1
 clear hb1
 replace q_a := x_a.al
 replace q_r := x_r.al
 go_wp2_with fail
 with_reducible refine (RNegZ_any z6.zr k (Nat.le_refl _) (by omega)).mono ?_
 rintro e v4 ⟨A7, n7, c7, rfl, z7, hb1⟩
 obtain ⟨x_a, x_r, h, z5, z6⟩ := mv5 hb1 x_a x_r h z5 z6
 replace hb := bthen hb hb1
 clear hb1
 replace q_a := x_a.al
 replace q_r := x_r.al
 go_wp2
 replace x_a := x_a.aside (b' := (ngB (-flI (-X) (-i)))) (A' := A7) (n' := n7) (c' := c7) (g := w.heap.size + 1) (by omega)
 replace h := h.put (b' := (ngB (-flI (-X) (-i)))) (A' := A7) (n' := n7) (c' := c7) x_r
 replace z5 := z5.put (b' := (ngB (-flI (-X) (-i)))) (A' := A7) (n' := n7) (c' := c7) x_r
 replace z6 := z6.put (b' := (ngB (-flI (-X) (-i)))) (A' := A7) (n' := n7) (c' := c7) x_r
 replace z7 := z7.put (b' := (ngB (-flI (-X) (-i)))) (A' := A7) (n' := n7) (c' := c7) x_r
 replace hb := put_below (g := w.heap.size + 1) hb (by omega) (.bool (ngB (-flI (-X) (-i)))) (.slice A7 n7 c7)
 replace x_r := x_r.put (ngB (-flI (-X) (-i))) A7 n7 c7
 clear q_a q_r
 generalize (v4.setCell ⟨w.heap.size + 1, 0, none⟩ (.bool (ngB (-flI (-X) (-i))))).setCell ⟨w.heap.size + 1, 1, none⟩ (.slice A7 n7 c7) = v5 at *
 have q_a := x_a.al
 have q_r := x_r.al
 refine bodyPost_ret (v := .agg #[.bool (ngB (-flI (-X) (-i))), .slice A7 n7 c7]) (by simp [results, Tryz.results44, go_sem, q_r]) rfl ?_
 exact ⟨_, _, _, rfl, z7, hb⟩

set_option maxRecDepth 100000 in
set_option maxHeartbeats 2000000 in
theorem LEqual_any {A A2 A3 A4 : Option Addr} {n c n2 c2 n3 c3 n4 c4 k k2 k3 k4 : Nat} {X Y q : Int} {w : World} (h : Zn w A n c X k) (h2 : Zn w A2 n2 c2 Y k2) (h3 : Zn w A3 n3 c3 X k3) (h4 : Zn w A4 n4 c4 Y k4) :
  Calls Tryz.prog 9 #[.agg #[.bool (ngB X), .slice A n c, .bool (ngB Y), .slice A2 n2 c2, .int .i64 q], .agg #[.bool (ngB X), .slice A3 n3 c3, .bool (ngB Y), .slice A4 n4 c4, .int .i64 q]] w fun e w' => e = .returned (.bool true) ∧ Below w.heap.size w w' := by
 go_enter Tryz.func9, Tryz.ntmps9
 go_wp2_with fail
 have x_a : Lx (w.alloc (.cells #[.bool (ngB X), .slice A n c, .bool (ngB Y), .slice A2 n2 c2, .int .i64 q] 27)) (w.heap.size) (ngB X) A n c (ngB Y) A2 n2 c2 q := by have := Lx.new w (ngB X) A n c (ngB Y) A2 n2 c2 q; simpa using this
 replace x_a := x_a.alloc (.cells #[.bool (ngB X), .slice A3 n3 c3, .bool (ngB Y), .slice A4 n4 c4, .int .i64 q] 27)
 have x_d : Lx ((w.alloc (.cells #[.bool (ngB X), .slice A n c, .bool (ngB Y), .slice A2 n2 c2, .int .i64 q] 27)).alloc (.cells #[.bool (ngB X), .slice A3 n3 c3, .bool (ngB Y), .slice A4 n4 c4, .int .i64 q] 27)) (w.heap.size + 1) (ngB X) A3 n3 c3 (ngB Y) A4 n4 c4 q := by have := Lx.new (w.alloc (.cells #[.bool (ngB X), .slice A n c, .bool (ngB Y), .slice A2 n2 c2, .int .i64 q] 27)) (ngB X) A3 n3 c3 (ngB Y) A4 n4 c4 q; simpa using this
 have hb : Below w.heap.size w ((w.alloc (.cells #[.bool (ngB X), .slice A n c, .bool (ngB Y), .slice A2 n2 c2, .int .i64 q] 27)).alloc (.cells #[.bool (ngB X), .slice A3 n3 c3, .bool (ngB Y), .slice A4 n4 c4, .int .i64 q] 27)) := (Below.alloc (Below.alloc (Below.refl w.heap.size w) (by simp) (.cells #[.bool (ngB X), .slice A n c, .bool (ngB Y), .slice A2 n2 c2, .int .i64 q] 27)) (by simp) (.cells #[.bool (ngB X), .slice A3 n3 c3, .bool (ngB Y), .slice A4 n4 c4, .int .i64 q] 27))
 generalize (w.alloc (.cells #[.bool (ngB X), .slice A n c, .bool (ngB Y), .slice A2 n2 c2, .int .i64 q] 27)).alloc (.cells #[.bool (ngB X), .slice A3 n3 c3, .bool (ngB Y), .slice A4 n4 c4, .int .i64 q] 27) = v1 at *
 obtain ⟨h, h2, h3, h4⟩ := mv4 hb h h2 h3 h4
 have q_a := x_a.al
 have q_d := x_d.al
 go_wp2_with fail
 with_reducible refine (REqual_any h h3).mono ?_
 rintro e v2 ⟨rfl, hb1⟩
 obtain ⟨x_a, x_d, h, h2, h3, h4⟩ := mv6 hb1 x_a x_d h h2 h3 h4
 replace hb := bthen hb hb1
 clear hb1
 replace q_a := x_a.al
 replace q_d := x_d.al
 go_wp2_with fail
 with_reducible refine (REqual_any h2 h4).mono ?_
 rintro e v3 ⟨rfl, hb1⟩
 obtain ⟨x_a, x_d, h, h2, h3, h4⟩ := mv6 hb1 x_a x_d h h2 h3 h4
 replace hb := bthen hb hb1
 clear hb1
 replace q_a := x_a.al
 replace q_d := x_d.al
 go_wp2
 go_ret
 first | exact ⟨rfl, hb⟩ | exact ⟨by simp, hb⟩

end Go.Proofs.YtiikmjnnlckiiaaGreat
