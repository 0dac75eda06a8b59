/-
 the document's answers for ball: Times.
-/
import Derived.Test.YtiikmjnnlckiiaaGreatLrdn
import Derived.Test.YtiikmjnnlckiiaaGreatLleast
namespace Go.Proofs.YtiikmjnnlckiiaaGreat
open Go.RowKit
set_option linter.unusedVariables false

end Go.Proofs.YtiikmjnnlckiiaaGreat
namespace Go.Proofs.YtiikmjnnlckiiaaGreat
open Go.RowKit
set_option linter.unusedVariables false

set_option maxRecDepth 100000 in
set_option maxHeartbeats 8000000 in
theorem RTimes_yes {b b2 : Bool} {A A2 : Option Addr} {n c n2 c2 : Nat} {X Y q : Int} {j j2 : Nat} {w : World} (h : Zr w b A n c X j) (h2 : Zr w b2 A2 n2 c2 Y j2) {b3 : Bool} {A3 : Option Addr} {n3 c3 : Nat} {K : Int} {j3 : Nat} (h3 : Zr w b3 A3 n3 c3 K j3) (hv : 0 ≤ q ∧ q ≤ 2048 ∧ X ≤ Y) (hj : j ≤ 30) (hj2 : j2 ≤ 30) (hj3 : j3 ≤ 30) :
  Calls Tryz.prog 15 #[.agg #[.bool b, .slice A n c, .bool b2, .slice A2 n2 c2, .int .i64 q], .agg #[.bool b3, .slice A3 n3 c3]] w (OuL w (min (X * K) (Y * K)) (max (X * K) (Y * K)) q 60) := by
 have HR := Lib.hid (rB_yes hv)
 clear hv
 obtain ⟨M, hM⟩ : ∃ M, X * K = M := ⟨_, rfl⟩
 obtain ⟨N, hN⟩ : ∃ N, Y * K = N := ⟨_, rfl⟩
 rw [hM, hN]
 have HM := Lib.hid hM; have HN := Lib.hid hN; clear hM hN
 obtain ⟨L, hL⟩ : ∃ L, min M N = L := ⟨_, rfl⟩
 obtain ⟨H, hH⟩ : ∃ H, max M N = H := ⟨_, rfl⟩
 rw [hL, hH]
 have HL := Lib.hid hL; have HH := Lib.hid hH; clear hL hH
 go_enter Tryz.func15, Tryz.ntmps15
 go_wp2_with fail
 have x_a : Lx (w.alloc (.cells #[.bool b, .slice A n c, .bool b2, .slice A2 n2 c2, .int .i64 q] 27)) (w.heap.size) b A n c b2 A2 n2 c2 q := by have := Lx.new w b A n c b2 A2 n2 c2 q; simpa using this
 replace x_a := x_a.alloc (.cells #[.bool b3, .slice A3 n3 c3] 25)
 have x_k : Bx ((w.alloc (.cells #[.bool b, .slice A n c, .bool b2, .slice A2 n2 c2, .int .i64 q] 27)).alloc (.cells #[.bool b3, .slice A3 n3 c3] 25)) (w.heap.size + 1) b3 A3 n3 c3 := by have := Bx.new (w.alloc (.cells #[.bool b, .slice A n c, .bool b2, .slice A2 n2 c2, .int .i64 q] 27)) b3 A3 n3 c3; simpa using this
 replace x_a := x_a.alloc (.cells #[.bool false, .slice none 0 0, .bool false, .slice none 0 0, .int .i64 0] 27)
 replace x_k := x_k.alloc (.cells #[.bool false, .slice none 0 0, .bool false, .slice none 0 0, .int .i64 0] 27)
 have x_r : Lx (((w.alloc (.cells #[.bool b, .slice A n c, .bool b2, .slice A2 n2 c2, .int .i64 q] 27)).alloc (.cells #[.bool b3, .slice A3 n3 c3] 25)).alloc (.cells #[.bool false, .slice none 0 0, .bool false, .slice none 0 0, .int .i64 0] 27)) (w.heap.size + 1 + 1) false none 0 0 false none 0 0 0 := by have := Lx.new ((w.alloc (.cells #[.bool b, .slice A n c, .bool b2, .slice A2 n2 c2, .int .i64 q] 27)).alloc (.cells #[.bool b3, .slice A3 n3 c3] 25)) false none 0 0 false none 0 0 0; simpa using this
 have hb : Below w.heap.size w (((w.alloc (.cells #[.bool b, .slice A n c, .bool b2, .slice A2 n2 c2, .int .i64 q] 27)).alloc (.cells #[.bool b3, .slice A3 n3 c3] 25)).alloc (.cells #[.bool false, .slice none 0 0, .bool false, .slice none 0 0, .int .i64 0] 27)) := (Below.alloc (Below.alloc (Below.alloc (Below.refl w.heap.size w) (by simp) (.cells #[.bool b, .slice A n c, .bool b2, .slice A2 n2 c2, .int .i64 q] 27)) (by simp) (.cells #[.bool b3, .slice A3 n3 c3] 25)) (by simp; omega) (.cells #[.bool false, .slice none 0 0, .bool false, .slice none 0 0, .int .i64 0] 27))
 generalize ((w.alloc (.cells #[.bool b, .slice A n c, .bool b2, .slice A2 n2 c2, .int .i64 q] 27)).alloc (.cells #[.bool b3, .slice A3 n3 c3] 25)).alloc (.cells #[.bool false, .slice none 0 0, .bool false, .slice none 0 0, .int .i64 0] 27) = v1 at *
 obtain ⟨h, h2, h3⟩ := mv3 hb h h2 h3
 have q_a := x_a.al
 have q_k := x_k.al
 have q_r := x_r.al
 go_wp2_with fail
 with_reducible refine (RRight_any h h2 (by omega) (by omega)).mono ?_
 rintro e v2 ⟨rfl, hb1⟩
 obtain ⟨x_a, x_k, x_r, h, h2, h3⟩ := mv6 hb1 x_a x_k x_r h h2 h3
 replace hb := bthen hb hb1
 clear hb1
 replace q_a := x_a.al
 replace q_k := x_k.al
 replace q_r := x_r.al
 rw [HR.out]
 go_wp2_with fail
 go_region_held3 (fun w' => w'.cell? ⟨w.heap.size, 0, none⟩ = some (.bool b) ∧ w'.cell? ⟨w.heap.size, 1, none⟩ = some (.slice A n c) ∧ w'.cell? ⟨w.heap.size, 2, none⟩ = some (.bool b2) ∧ w'.cell? ⟨w.heap.size, 3, none⟩ = some (.slice A2 n2 c2) ∧ w'.cell? ⟨w.heap.size, 4, none⟩ = some (.int .i64 q) ∧ w'.cell? ⟨w.heap.size + 1, 0, none⟩ = some (.bool b3) ∧ w'.cell? ⟨w.heap.size + 1, 1, none⟩ = some (.slice A3 n3 c3))
  (first | (with_reducible exact ⟨x_a.c0, x_a.c1, x_a.c2, x_a.c3, x_a.c4, x_k.c0, x_k.c1⟩) | (with_reducible exact ⟨(x_a.aside (by omega)).c0, (x_a.aside (by omega)).c1, (x_a.aside (by omega)).c2, (x_a.aside (by omega)).c3, (x_a.aside (by omega)).c4, (x_k.aside (by omega)).c0, (x_k.aside (by omega)).c1⟩) | (with_reducible exact ⟨((x_a.aside (by omega)).aside (by omega)).c0, ((x_a.aside (by omega)).aside (by omega)).c1, ((x_a.aside (by omega)).aside (by omega)).c2, ((x_a.aside (by omega)).aside (by omega)).c3, ((x_a.aside (by omega)).aside (by omega)).c4, ((x_k.aside (by omega)).aside (by omega)).c0, ((x_k.aside (by omega)).aside (by omega)).c1⟩) | (with_reducible exact ⟨(x_a.asideD (by omega)).c0, (x_a.asideD (by omega)).c1, (x_a.asideD (by omega)).c2, (x_a.asideD (by omega)).c3, (x_a.asideD (by omega)).c4, (x_k.asideD (by omega)).c0, (x_k.asideD (by omega)).c1⟩) | (with_reducible exact ⟨((x_a.asideD (by omega)).asideD (by omega)).c0, ((x_a.asideD (by omega)).asideD (by omega)).c1, ((x_a.asideD (by omega)).asideD (by omega)).c2, ((x_a.asideD (by omega)).asideD (by omega)).c3, ((x_a.asideD (by omega)).asideD (by omega)).c4, ((x_k.asideD (by omega)).asideD (by omega)).c0, ((x_k.asideD (by omega)).asideD (by omega)).c1⟩) | (with_reducible exact ⟨(x_a.asideL (by omega)).c0, (x_a.asideL (by omega)).c1, (x_a.asideL (by omega)).c2, (x_a.asideL (by omega)).c3, (x_a.asideL (by omega)).c4, (x_k.asideL (by omega)).c0, (x_k.asideL (by omega)).c1⟩) | (with_reducible exact ⟨((x_a.asideL (by omega)).asideL (by omega)).c0, ((x_a.asideL (by omega)).asideL (by omega)).c1, ((x_a.asideL (by omega)).asideL (by omega)).c2, ((x_a.asideL (by omega)).asideL (by omega)).c3, ((x_a.asideL (by omega)).asideL (by omega)).c4, ((x_k.asideL (by omega)).asideL (by omega)).c0, ((x_k.asideL (by omega)).asideL (by omega)).c1⟩) | (with_reducible exact ⟨(x_a.alloc _).c0, (x_a.alloc _).c1, (x_a.alloc _).c2, (x_a.alloc _).c3, (x_a.alloc _).c4, (x_k.alloc _).c0, (x_k.alloc _).c1⟩) | go_keep)
  (first | (go_at_call 35; (with_reducible refine (RMulZ_any h.drw h3.drw 60 (by omega) (by omega)).mono ?_); rintro e v3 ⟨A5, n5, c5, rfl, z5, hb1⟩; replace hb1 := undrew hb1; obtain ⟨x_a, x_k, x_r, h, h2, h3⟩ := mv6 hb1 x_a x_k x_r h h2 h3; replace hb := bthen hb hb1; clear hb1; replace q_a := x_a.al; replace q_k := x_k.al; replace q_r := x_r.al; rw [HM.out] at z5 ⊢) | (go_at_call 35; (with_reducible refine (RMulZ_any h2 h3 60 (by omega) (by omega)).mono ?_); rintro e v4 ⟨A6, n6, c6, rfl, z6, hb1⟩; obtain ⟨x_a, x_k, x_r, h, h2, h3, z5⟩ := mv7 hb1 x_a x_k x_r h h2 h3 z5; replace hb := bthen hb hb1; clear hb1; replace q_a := x_a.al; replace q_k := x_k.al; replace q_r := x_r.al; rw [HN.out] at z6 ⊢))
 go_wp2_with fail
 have hb1 := below_alloc v4 (.cells #[.bool (ngB M), .slice A5 n5 c5, .bool (ngB N), .slice A6 n6 c6] 25)
 have l_a_s := x_a.lt
 have l_k_s := x_k.lt
 have l_r_s := x_r.lt
 have x_s := S2x.new v4 (ngB M) A5 n5 c5 (ngB N) A6 n6 c6
 have e_s : w.heap.size ≤ v4.heap.size := hb.size
 clear q_a q_k q_r
 obtain ⟨x_a, x_k, x_r, h, h2, h3, z5, z6⟩ := mv8 hb1 x_a x_k x_r h h2 h3 z5 z6
 replace hb := bthen hb hb1
 clear hb1
 generalize v4.alloc (.cells #[.bool (ngB M), .slice A5 n5 c5, .bool (ngB N), .slice A6 n6 c6] 25) = v5 at *
 have q_a := x_a.al
 have q_k := x_k.al
 have q_r := x_r.al
 have q_s := x_s.al
 clear q_s
 clear q_k
 go_region_held3 (fun w' => w'.cell? ⟨w.heap.size, 0, none⟩ = some (.bool b) ∧ w'.cell? ⟨w.heap.size, 1, none⟩ = some (.slice A n c) ∧ w'.cell? ⟨w.heap.size, 2, none⟩ = some (.bool b2) ∧ w'.cell? ⟨w.heap.size, 3, none⟩ = some (.slice A2 n2 c2) ∧ w'.cell? ⟨w.heap.size, 4, none⟩ = some (.int .i64 q))
  (first | (with_reducible exact ⟨x_a.c0, x_a.c1, x_a.c2, x_a.c3, x_a.c4⟩) | (with_reducible exact ⟨(x_a.aside (by omega)).c0, (x_a.aside (by omega)).c1, (x_a.aside (by omega)).c2, (x_a.aside (by omega)).c3, (x_a.aside (by omega)).c4⟩) | (with_reducible exact ⟨((x_a.aside (by omega)).aside (by omega)).c0, ((x_a.aside (by omega)).aside (by omega)).c1, ((x_a.aside (by omega)).aside (by omega)).c2, ((x_a.aside (by omega)).aside (by omega)).c3, ((x_a.aside (by omega)).aside (by omega)).c4⟩) | (with_reducible exact ⟨(x_a.asideD (by omega)).c0, (x_a.asideD (by omega)).c1, (x_a.asideD (by omega)).c2, (x_a.asideD (by omega)).c3, (x_a.asideD (by omega)).c4⟩) | (with_reducible exact ⟨((x_a.asideD (by omega)).asideD (by omega)).c0, ((x_a.asideD (by omega)).asideD (by omega)).c1, ((x_a.asideD (by omega)).asideD (by omega)).c2, ((x_a.asideD (by omega)).asideD (by omega)).c3, ((x_a.asideD (by omega)).asideD (by omega)).c4⟩) | (with_reducible exact ⟨(x_a.asideL (by omega)).c0, (x_a.asideL (by omega)).c1, (x_a.asideL (by omega)).c2, (x_a.asideL (by omega)).c3, (x_a.asideL (by omega)).c4⟩) | (with_reducible exact ⟨((x_a.asideL (by omega)).asideL (by omega)).c0, ((x_a.asideL (by omega)).asideL (by omega)).c1, ((x_a.asideL (by omega)).asideL (by omega)).c2, ((x_a.asideL (by omega)).asideL (by omega)).c3, ((x_a.asideL (by omega)).asideL (by omega)).c4⟩) | go_keep)
  (first | (go_at_call 40; (with_reducible refine (least2_any x_s.drw z5.drw z6.drw (by omega)).mono ?_); rintro e v6 ⟨A7, n7, c7, rfl, z7, hb1⟩; replace hb1 := undrew hb1; obtain ⟨x_a, x_k, x_r, x_s, h, h2, h3, z5, z6⟩ := mv9 hb1 x_a x_k x_r x_s h h2 h3 z5 z6; replace hb := bthen hb hb1; clear hb1; replace q_a := x_a.al; replace q_r := x_r.al; rw [HL.out] at z7 ⊢) | (go_at_call 41; (with_reducible refine (greatest2_any x_s z5 z6 (by omega)).mono ?_); rintro e v7 ⟨A8, n8, c8, rfl, z8, hb1⟩; obtain ⟨x_a, x_k, x_r, x_s, h, h2, h3, z5, z6⟩ := mv9 hb1 x_a x_k x_r x_s h h2 h3 z5 z6; replace z7 := z7.keep hb1; replace hb := bthen hb hb1; clear hb1; replace q_a := x_a.al; replace q_r := x_r.al; rw [HH.out] at z8 ⊢))
 go_wp2
 replace x_a := x_a.asideL (b' := (ngB L)) (A' := A7) (n' := n7) (c' := c7) (p' := (ngB H)) (B' := A8) (m' := n8) (d' := c8) (e' := q) (g := w.heap.size + 1 + 1) (by omega)
 replace x_k := x_k.asideL (b' := (ngB L)) (A' := A7) (n' := n7) (c' := c7) (p' := (ngB H)) (B' := A8) (m' := n8) (d' := c8) (e' := q) (g := w.heap.size + 1 + 1) (by omega)
 replace x_s := x_s.asideL (b' := (ngB L)) (A' := A7) (n' := n7) (c' := c7) (p' := (ngB H)) (B' := A8) (m' := n8) (d' := c8) (e' := q) (g := w.heap.size + 1 + 1) (by omega)
 replace h := h.putL (b' := (ngB L)) (A' := A7) (n' := n7) (c' := c7) (p' := (ngB H)) (B' := A8) (m' := n8) (d' := c8) (e' := q) x_r
 replace h2 := h2.putL (b' := (ngB L)) (A' := A7) (n' := n7) (c' := c7) (p' := (ngB H)) (B' := A8) (m' := n8) (d' := c8) (e' := q) x_r
 replace h3 := h3.putL (b' := (ngB L)) (A' := A7) (n' := n7) (c' := c7) (p' := (ngB H)) (B' := A8) (m' := n8) (d' := c8) (e' := q) x_r
 replace z5 := z5.putL (b' := (ngB L)) (A' := A7) (n' := n7) (c' := c7) (p' := (ngB H)) (B' := A8) (m' := n8) (d' := c8) (e' := q) x_r
 replace z6 := z6.putL (b' := (ngB L)) (A' := A7) (n' := n7) (c' := c7) (p' := (ngB H)) (B' := A8) (m' := n8) (d' := c8) (e' := q) x_r
 replace z7 := z7.putL (b' := (ngB L)) (A' := A7) (n' := n7) (c' := c7) (p' := (ngB H)) (B' := A8) (m' := n8) (d' := c8) (e' := q) x_r
 replace z8 := z8.putL (b' := (ngB L)) (A' := A7) (n' := n7) (c' := c7) (p' := (ngB H)) (B' := A8) (m' := n8) (d' := c8) (e' := q) x_r
 replace hb := put_belowL (g := w.heap.size + 1 + 1) hb (by omega) (.bool (ngB L)) (.slice A7 n7 c7) (.bool (ngB H)) (.slice A8 n8 c8) (.int .i64 q)
 replace x_r := x_r.put (ngB L) A7 n7 c7 (ngB H) A8 n8 c8 q
 clear q_a q_r
 generalize ((((v7.setCell ⟨w.heap.size + 1 + 1, 0, none⟩ (.bool (ngB L))).setCell ⟨w.heap.size + 1 + 1, 1, none⟩ (.slice A7 n7 c7)).setCell ⟨w.heap.size + 1 + 1, 2, none⟩ (.bool (ngB H))).setCell ⟨w.heap.size + 1 + 1, 3, none⟩ (.slice A8 n8 c8)).setCell ⟨w.heap.size + 1 + 1, 4, none⟩ (.int .i64 q) = v8 at *
 have q_a := x_a.al
 have q_r := x_r.al
 refine bodyPost_ret (v := .tuple #[.agg #[.bool (ngB L), .slice A7 n7 c7, .bool (ngB H), .slice A8 n8 c8, .int .i64 q], .int .i64 0]) (by simp [results, Tryz.results15, go_sem, q_r]) rfl ?_
 exact ⟨_, _, _, _, _, _, rfl, z7, z8, hb⟩

end Go.Proofs.YtiikmjnnlckiiaaGreat
