/-
 ball: Times, Shift.
-/
import Derived.Test.YtjlbngjeekdfcaaGreatDoorLpoint
import Derived.Test.YtjlbngjeekdfcaaGreatDoorLclos
namespace Go.Proofs.YtjlbngjeekdfcaaGreatDoor
set_option maxRecDepth 100000
set_option maxHeartbeats 4000000
set_option linter.unusedVariables false
open Go.RowKit
theorem Shift_yes {b b2 : Bool} {A A2 : Option Addr} {n c n2 c2 : Nat} {X Y q : Int} {j j2 : Nat} {w : World} (h : Zr w b A n c X j) (h2 : Zr w b2 A2 n2 c2 Y j2) (i : Int) (hv : 0 ≤ q ∧ q ≤ 2048 ∧ X ≤ Y) (hi : -4000 ≤ i ∧ i ≤ 4000) (hj : j ≤ 8) (hj2 : j2 ≤ 8) :
  Calls Tryz.prog 36 #[.agg #[.bool b, .slice A n c, .bool b2, .slice A2 n2 c2, .int .i64 q], .int .i64 i] w (OuL w (flI X i) (-flI (-Y) i) q 140) := by
 have HR := Lib.hid (rB_yes hv)
 clear hv
 have o1 : ¬ i < -4000 := by omega
 have o2 : ¬ 4000 < i := by omega
 obtain ⟨L1, hL1⟩ : ∃ L, flI X i = L := ⟨_, rfl⟩
 obtain ⟨H1, hH1⟩ : ∃ L, -flI (-X) i = L := ⟨_, rfl⟩
 obtain ⟨L2, hL2⟩ : ∃ L, flI Y i = L := ⟨_, rfl⟩
 obtain ⟨H2, hH2⟩ : ∃ L, -flI (-Y) i = L := ⟨_, rfl⟩
 rw [hL1, hH2]
 have HA := Lib.hid (And.intro hL1 hH1); have HB := Lib.hid (And.intro hL2 hH2); clear hL1 hH1 hL2 hH2
 go_enter Tryz.func36, Tryz.ntmps36
 go_wp2_with fail
 have x_a : Lx (w.alloc (.cells #[.bool b, .slice A n c, .bool b2, .slice A2 n2 c2, .int .i64 q] 31)) (w.heap.size) b A n c b2 A2 n2 c2 q := by have := Lx.new w b A n c b2 A2 n2 c2 q; simpa using this
 replace x_a := x_a.alloc (.cells #[.bool false, .slice none 0 0, .bool false, .slice none 0 0, .int .i64 0] 31)
 have x_r : Lx ((w.alloc (.cells #[.bool b, .slice A n c, .bool b2, .slice A2 n2 c2, .int .i64 q] 31)).alloc (.cells #[.bool false, .slice none 0 0, .bool false, .slice none 0 0, .int .i64 0] 31)) (w.heap.size + 1) false none 0 0 false none 0 0 0 := by have := Lx.new (w.alloc (.cells #[.bool b, .slice A n c, .bool b2, .slice A2 n2 c2, .int .i64 q] 31)) false none 0 0 false none 0 0 0; simpa using this
 have hb : Below w.heap.size w ((w.alloc (.cells #[.bool b, .slice A n c, .bool b2, .slice A2 n2 c2, .int .i64 q] 31)).alloc (.cells #[.bool false, .slice none 0 0, .bool false, .slice none 0 0, .int .i64 0] 31)) := (Below.alloc (Below.alloc (Below.refl w.heap.size w) (by simp) (.cells #[.bool b, .slice A n c, .bool b2, .slice A2 n2 c2, .int .i64 q] 31)) (by simp) (.cells #[.bool false, .slice none 0 0, .bool false, .slice none 0 0, .int .i64 0] 31))
 generalize (w.alloc (.cells #[.bool b, .slice A n c, .bool b2, .slice A2 n2 c2, .int .i64 q] 31)).alloc (.cells #[.bool false, .slice none 0 0, .bool false, .slice none 0 0, .int .i64 0] 31) = v1 at *
 obtain ⟨h, h2⟩ := mv2 hb h h2
 have q_a := x_a.al
 have q_r := x_r.al
 go_wp2_with fail
 with_reducible refine (Right_any h h2 (by omega) (by omega)).mono ?_
 rintro e v2 ⟨rfl, hb1⟩
 obtain ⟨x_a, x_r, h, h2⟩ := mv4 hb1 x_a x_r h h2
 replace hb := bthen hb hb1
 clear hb1
 replace q_a := x_a.al
 replace q_r := x_r.al
 rw [HR.out]
 go_wp2_with fail
 with_reducible refine (scale_any h i hi 140 (by omega) (by omega)).mono ?_
 rintro e v3 ⟨A5, n5, c5, A6, n6, c6, rfl, z5, z6, hb1⟩
 obtain ⟨x_a, x_r, h, h2⟩ := mv4 hb1 x_a x_r h h2
 replace hb := bthen hb hb1
 clear hb1
 replace q_a := x_a.al
 replace q_r := x_r.al
 rw [HA.out.1] at z5
 rw [HA.out.2] at z6
 rw [HA.out.1, HA.out.2]
 have y_a := ((x_a.alloc (.cells #[.bool (ngB L1), .slice A5 n5 c5] 24)).alloc (.cells #[.bool (ngB H1), .slice A6 n6 c6] 24)); have yq_a0 := y_a.c0; have yq_a1 := y_a.c1; have yq_a2 := y_a.c2; have yq_a3 := y_a.c3; have yq_a4 := y_a.c4
 have y_r := ((x_r.alloc (.cells #[.bool (ngB L1), .slice A5 n5 c5] 24)).alloc (.cells #[.bool (ngB H1), .slice A6 n6 c6] 24)); have yq_r0 := y_r.c0; have yq_r1 := y_r.c1; have yq_r2 := y_r.c2; have yq_r3 := y_r.c3; have yq_r4 := y_r.c4
 go_wp2_with fail
 clear y_a yq_a0 yq_a1 yq_a2 yq_a3 yq_a4 y_r yq_r0 yq_r1 yq_r2 yq_r3 yq_r4
 have l_a_l := x_a.lt
 have l_r_l := x_r.lt
 have e_l : w.heap.size ≤ v3.heap.size := hb.size
 have hb1 := below_alloc2 v3 (.cells #[.bool (ngB L1), .slice A5 n5 c5] 24) (.cells #[.bool (ngB H1), .slice A6 n6 c6] 24)
 have x_l := (Bx.new v3 (ngB L1) A5 n5 c5).alloc (.cells #[.bool (ngB H1), .slice A6 n6 c6] 24)
 have x_m : Bx ((v3.alloc (.cells #[.bool (ngB L1), .slice A5 n5 c5] 24)).alloc (.cells #[.bool (ngB H1), .slice A6 n6 c6] 24)) (v3.heap.size + 1) (ngB H1) A6 n6 c6 := by have := Bx.new (v3.alloc (.cells #[.bool (ngB L1), .slice A5 n5 c5] 24)) (ngB H1) A6 n6 c6; simpa using this
 clear q_a q_r
 obtain ⟨x_a, x_r, h, h2, z5, z6⟩ := mv6 hb1 x_a x_r h h2 z5 z6
 replace hb := bthen hb hb1
 clear hb1
 generalize (v3.alloc (.cells #[.bool (ngB L1), .slice A5 n5 c5] 24)).alloc (.cells #[.bool (ngB H1), .slice A6 n6 c6] 24) = v4 at *
 have q_a := x_a.al
 have q_r := x_r.al
 have q_l := x_l.al
 have q_m := x_m.al
 skip
 with_reducible refine (scale_any h2 i hi 140 (by omega) (by omega)).mono ?_
 rintro e v5 ⟨A7, n7, c7, A8, n8, c8, rfl, z7, z8, hb1⟩
 obtain ⟨x_a, x_r, x_l, x_m, h, h2, z5, z6⟩ := mv8 hb1 x_a x_r x_l x_m h h2 z5 z6
 replace hb := bthen hb hb1
 clear hb1
 replace q_a := x_a.al
 replace q_r := x_r.al
 replace q_l := x_l.al
 replace q_m := x_m.al
 rw [HB.out.1] at z7
 rw [HB.out.2] at z8
 rw [HB.out.1, HB.out.2]
 clear q_m
 have y_a := ((x_a.alloc (.cells #[.bool (ngB L2), .slice A7 n7 c7] 24)).alloc (.cells #[.bool (ngB H2), .slice A8 n8 c8] 24)); have yq_a0 := y_a.c0; have yq_a1 := y_a.c1; have yq_a2 := y_a.c2; have yq_a3 := y_a.c3; have yq_a4 := y_a.c4
 have y_r := ((x_r.alloc (.cells #[.bool (ngB L2), .slice A7 n7 c7] 24)).alloc (.cells #[.bool (ngB H2), .slice A8 n8 c8] 24)); have yq_r0 := y_r.c0; have yf_r0 := y_r.fr 0; have yq_r1 := y_r.c1; have yf_r1 := y_r.fr 1; have yq_r2 := y_r.c2; have yf_r2 := y_r.fr 2; have yq_r3 := y_r.c3; have yf_r3 := y_r.fr 3; have yq_r4 := y_r.c4; have yf_r4 := y_r.fr 4
 have y_l := ((x_l.alloc (.cells #[.bool (ngB L2), .slice A7 n7 c7] 24)).alloc (.cells #[.bool (ngB H2), .slice A8 n8 c8] 24)); have yq_l0 := y_l.c0; have yq_l1 := y_l.c1
 go_wp2
 clear y_a yq_a0 yq_a1 yq_a2 yq_a3 yq_a4 y_r yq_r0 yf_r0 yq_r1 yf_r1 yq_r2 yf_r2 yq_r3 yf_r3 yq_r4 yf_r4 y_l yq_l0 yq_l1
 have l_a_s := x_a.lt
 have l_r_s := x_r.lt
 have l_l_s := x_l.lt
 have l_m_s := x_m.lt
 have e_s : w.heap.size ≤ v5.heap.size := hb.size
 have hb1 := below_alloc2 v5 (.cells #[.bool (ngB L2), .slice A7 n7 c7] 24) (.cells #[.bool (ngB H2), .slice A8 n8 c8] 24)
 have x_s := (Bx.new v5 (ngB L2) A7 n7 c7).alloc (.cells #[.bool (ngB H2), .slice A8 n8 c8] 24)
 have x_u : Bx ((v5.alloc (.cells #[.bool (ngB L2), .slice A7 n7 c7] 24)).alloc (.cells #[.bool (ngB H2), .slice A8 n8 c8] 24)) (v5.heap.size + 1) (ngB H2) A8 n8 c8 := by have := Bx.new (v5.alloc (.cells #[.bool (ngB L2), .slice A7 n7 c7] 24)) (ngB H2) A8 n8 c8; simpa using this
 clear q_a q_r q_l
 obtain ⟨x_a, x_r, x_l, x_m, h, h2, z5, z6, z7⟩ := mv9 hb1 x_a x_r x_l x_m h h2 z5 z6 z7
 replace z8 := z8.keep hb1
 replace hb := bthen hb hb1
 clear hb1
 generalize (v5.alloc (.cells #[.bool (ngB L2), .slice A7 n7 c7] 24)).alloc (.cells #[.bool (ngB H2), .slice A8 n8 c8] 24) = v6 at *
 have q_a := x_a.al
 have q_r := x_r.al
 have q_l := x_l.al
 have q_s := x_s.al
 have q_u := x_u.al
 replace x_a := x_a.asideL (b' := (ngB L1)) (A' := A5) (n' := n5) (c' := c5) (p' := (ngB H2)) (B' := A8) (m' := n8) (d' := c8) (e' := q) (g := w.heap.size + 1) (by omega)
 replace x_l := x_l.asideL (b' := (ngB L1)) (A' := A5) (n' := n5) (c' := c5) (p' := (ngB H2)) (B' := A8) (m' := n8) (d' := c8) (e' := q) (g := w.heap.size + 1) (by omega)
 replace x_m := x_m.asideL (b' := (ngB L1)) (A' := A5) (n' := n5) (c' := c5) (p' := (ngB H2)) (B' := A8) (m' := n8) (d' := c8) (e' := q) (g := w.heap.size + 1) (by omega)
 replace x_s := x_s.asideL (b' := (ngB L1)) (A' := A5) (n' := n5) (c' := c5) (p' := (ngB H2)) (B' := A8) (m' := n8) (d' := c8) (e' := q) (g := w.heap.size + 1) (by omega)
 replace x_u := x_u.asideL (b' := (ngB L1)) (A' := A5) (n' := n5) (c' := c5) (p' := (ngB H2)) (B' := A8) (m' := n8) (d' := c8) (e' := q) (g := w.heap.size + 1) (by omega)
 replace h := h.putL (b' := (ngB L1)) (A' := A5) (n' := n5) (c' := c5) (p' := (ngB H2)) (B' := A8) (m' := n8) (d' := c8) (e' := q) x_r
 replace h2 := h2.putL (b' := (ngB L1)) (A' := A5) (n' := n5) (c' := c5) (p' := (ngB H2)) (B' := A8) (m' := n8) (d' := c8) (e' := q) x_r
 replace z5 := z5.putL (b' := (ngB L1)) (A' := A5) (n' := n5) (c' := c5) (p' := (ngB H2)) (B' := A8) (m' := n8) (d' := c8) (e' := q) x_r
 replace z6 := z6.putL (b' := (ngB L1)) (A' := A5) (n' := n5) (c' := c5) (p' := (ngB H2)) (B' := A8) (m' := n8) (d' := c8) (e' := q) x_r
 replace z7 := z7.putL (b' := (ngB L1)) (A' := A5) (n' := n5) (c' := c5) (p' := (ngB H2)) (B' := A8) (m' := n8) (d' := c8) (e' := q) x_r
 replace z8 := z8.putL (b' := (ngB L1)) (A' := A5) (n' := n5) (c' := c5) (p' := (ngB H2)) (B' := A8) (m' := n8) (d' := c8) (e' := q) x_r
 replace hb := put_belowL (g := w.heap.size + 1) hb (by omega) (.bool (ngB L1)) (.slice A5 n5 c5) (.bool (ngB H2)) (.slice A8 n8 c8) (.int .i64 q)
 replace x_r := x_r.put (ngB L1) A5 n5 c5 (ngB H2) A8 n8 c8 q
 clear q_a q_r q_l q_s q_u
 generalize ((((v6.setCell ⟨w.heap.size + 1, 0, none⟩ (.bool (ngB L1))).setCell ⟨w.heap.size + 1, 1, none⟩ (.slice A5 n5 c5)).setCell ⟨w.heap.size + 1, 2, none⟩ (.bool (ngB H2))).setCell ⟨w.heap.size + 1, 3, none⟩ (.slice A8 n8 c8)).setCell ⟨w.heap.size + 1, 4, none⟩ (.int .i64 q) = v7 at *
 have q_a := x_a.al
 have q_r := x_r.al
 have q_l := x_l.al
 have q_s := x_s.al
 have q_u := x_u.al
 skip
 refine bodyPost_ret (v := .tuple #[.agg #[.bool (ngB L1), .slice A5 n5 c5, .bool (ngB H2), .slice A8 n8 c8, .int .i64 q], .int .i64 0]) (by simp [results, Tryz.results36, go_sem, q_r]) rfl ?_
 exact ⟨_, _, _, _, _, _, rfl, z5, z8, hb⟩
end Go.Proofs.YtjlbngjeekdfcaaGreatDoor
