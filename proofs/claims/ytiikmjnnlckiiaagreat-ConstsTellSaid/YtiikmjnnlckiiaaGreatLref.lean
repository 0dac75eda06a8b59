/-
 the document's answers for ball: Point, Recast.
-/
import Derived.Test.YtiikmjnnlckiiaaGreatPf
import Derived.Test.YtiikmjnnlckiiaaGreatPe
import Derived.Test.YtiikmjnnlckiiaaGreatPg
import Derived.Test.YtiikmjnnlckiiaaGreatLref0
import Derived.Test.YtiikmjnnlckiiaaGreatLpoint
import Derived.Test.YtiikmjnnlckiiaaGreatLrdn
namespace Go.Proofs.YtiikmjnnlckiiaaGreat
section
set_option maxRecDepth 100000
open Go.RowKit
set_option linter.unusedVariables false

end
end Go.Proofs.YtiikmjnnlckiiaaGreat
namespace Go.Proofs.YtiikmjnnlckiiaaGreat
section
set_option maxRecDepth 100000
open Go.RowKit
set_option linter.unusedVariables false

end
end Go.Proofs.YtiikmjnnlckiiaaGreat
namespace Go.Proofs.YtiikmjnnlckiiaaGreat
section
set_option maxRecDepth 100000
open Go.RowKit
set_option linter.unusedVariables false

end
end Go.Proofs.YtiikmjnnlckiiaaGreat
namespace Go.Proofs.YtiikmjnnlckiiaaGreat
section
set_option maxRecDepth 100000
open Go.RowKit
set_option linter.unusedVariables false

end
end Go.Proofs.YtiikmjnnlckiiaaGreat
namespace Go.Proofs.YtiikmjnnlckiiaaGreat
section
set_option maxRecDepth 100000
open Go.RowKit
set_option linter.unusedVariables false

end
end Go.Proofs.YtiikmjnnlckiiaaGreat
namespace Go.Proofs.YtiikmjnnlckiiaaGreat
open Go.RowKit
set_option linter.unusedVariables false

end Go.Proofs.YtiikmjnnlckiiaaGreat
namespace Go.Proofs.YtiikmjnnlckiiaaGreat
open Go.RowKit
set_option linter.unusedVariables false

set_option maxRecDepth 100000 in
set_option maxHeartbeats 2000000 in
theorem RRecast_yes {b b2 : Bool} {A A2 : Option Addr} {n c n2 c2 : Nat} {X Y q : Int} {j j2 : Nat} {w : World} (h : Zr w b A n c X j) (h2 : Zr w b2 A2 n2 c2 Y j2) (p : Int) (hv : 0 ≤ q ∧ q ≤ 2048 ∧ X ≤ Y) (hp : 0 ≤ p ∧ p ≤ 2048) (k : Nat) (hk : j + 130 ≤ k) (hk2 : j2 + 130 ≤ k) (hj : k ≤ 10000) :
  Calls Tryz.prog 17 #[.agg #[.bool b, .slice A n c, .bool b2, .slice A2 n2 c2, .int .i64 q], .int .i64 p] w (OuL w (flI X (-q + p)) (-flI (-Y) (-q + p)) p k) := by
 have HR := Lib.hid (rB_yes hv)
 have hq : 0 ≤ q ∧ q ≤ 2048 := ⟨hv.1, hv.2.1⟩
 clear hv
 rw [show -q + p = -(q - p) by omega]
 obtain ⟨L, hL⟩ : ∃ L, flI X (-(q - p)) = L := ⟨_, rfl⟩
 obtain ⟨H, hH⟩ : ∃ H, -flI (-Y) (-(q - p)) = H := ⟨_, rfl⟩
 rw [hL, hH]
 have HL := Lib.hid hL; have HH := Lib.hid hH; clear hL hH
 have o1 : ¬ p < 0 := by omega
 have o2 : ¬ 2048 < p := by omega
 have hwr : IntKind.i64.wrap (q - p) = q - p := wrap_in (by omega) (by omega)
 go_enter Tryz.func17, Tryz.ntmps17
 go_wp2_with fail
 have x_a : Lx (w.alloc (.cells #[.bool b, .slice A n c, .bool b2, .slice A2 n2 c2, .int .i64 q] 27)) (w.heap.size) b A n c b2 A2 n2 c2 q := by have := Lx.new w b A n c b2 A2 n2 c2 q; simpa using this
 replace x_a := x_a.alloc (.cells #[.bool false, .slice none 0 0, .bool false, .slice none 0 0, .int .i64 0] 27)
 have x_r : Lx ((w.alloc (.cells #[.bool b, .slice A n c, .bool b2, .slice A2 n2 c2, .int .i64 q] 27)).alloc (.cells #[.bool false, .slice none 0 0, .bool false, .slice none 0 0, .int .i64 0] 27)) (w.heap.size + 1) false none 0 0 false none 0 0 0 := by have := Lx.new (w.alloc (.cells #[.bool b, .slice A n c, .bool b2, .slice A2 n2 c2, .int .i64 q] 27)) false none 0 0 false none 0 0 0; simpa using this
 have hb : Below w.heap.size w ((w.alloc (.cells #[.bool b, .slice A n c, .bool b2, .slice A2 n2 c2, .int .i64 q] 27)).alloc (.cells #[.bool false, .slice none 0 0, .bool false, .slice none 0 0, .int .i64 0] 27)) := (Below.alloc (Below.alloc (Below.refl w.heap.size w) (by simp) (.cells #[.bool b, .slice A n c, .bool b2, .slice A2 n2 c2, .int .i64 q] 27)) (by simp) (.cells #[.bool false, .slice none 0 0, .bool false, .slice none 0 0, .int .i64 0] 27))
 generalize (w.alloc (.cells #[.bool b, .slice A n c, .bool b2, .slice A2 n2 c2, .int .i64 q] 27)).alloc (.cells #[.bool false, .slice none 0 0, .bool false, .slice none 0 0, .int .i64 0] 27) = v1 at *
 obtain ⟨h, h2⟩ := mv2 hb h h2
 have q_a := x_a.al
 have q_r := x_r.al
 go_wp2_with fail
 with_reducible refine (RRight_any h h2 (by omega) (by omega)).mono ?_
 rintro e v2 ⟨rfl, hb1⟩
 obtain ⟨x_a, x_r, h, h2⟩ := mv4 hb1 x_a x_r h h2
 replace hb := bthen hb hb1
 clear hb1
 replace q_a := x_a.al
 replace q_r := x_r.al
 rw [HR.out]
 go_wp2_with fail
 go_region_held3 (fun w' => w'.cell? ⟨w.heap.size, 0, none⟩ = some (.bool b) ∧ w'.cell? ⟨w.heap.size, 1, none⟩ = some (.slice A n c) ∧ w'.cell? ⟨w.heap.size, 2, none⟩ = some (.bool b2) ∧ w'.cell? ⟨w.heap.size, 3, none⟩ = some (.slice A2 n2 c2) ∧ w'.cell? ⟨w.heap.size, 4, none⟩ = some (.int .i64 q))
  (first | (with_reducible exact ⟨x_a.c0, x_a.c1, x_a.c2, x_a.c3, x_a.c4⟩) | (with_reducible exact ⟨(x_a.aside (by omega)).c0, (x_a.aside (by omega)).c1, (x_a.aside (by omega)).c2, (x_a.aside (by omega)).c3, (x_a.aside (by omega)).c4⟩) | (with_reducible exact ⟨((x_a.aside (by omega)).aside (by omega)).c0, ((x_a.aside (by omega)).aside (by omega)).c1, ((x_a.aside (by omega)).aside (by omega)).c2, ((x_a.aside (by omega)).aside (by omega)).c3, ((x_a.aside (by omega)).aside (by omega)).c4⟩) | (with_reducible exact ⟨(x_a.asideD (by omega)).c0, (x_a.asideD (by omega)).c1, (x_a.asideD (by omega)).c2, (x_a.asideD (by omega)).c3, (x_a.asideD (by omega)).c4⟩) | (with_reducible exact ⟨((x_a.asideD (by omega)).asideD (by omega)).c0, ((x_a.asideD (by omega)).asideD (by omega)).c1, ((x_a.asideD (by omega)).asideD (by omega)).c2, ((x_a.asideD (by omega)).asideD (by omega)).c3, ((x_a.asideD (by omega)).asideD (by omega)).c4⟩) | (with_reducible exact ⟨(x_a.asideL (by omega)).c0, (x_a.asideL (by omega)).c1, (x_a.asideL (by omega)).c2, (x_a.asideL (by omega)).c3, (x_a.asideL (by omega)).c4⟩) | (with_reducible exact ⟨((x_a.asideL (by omega)).asideL (by omega)).c0, ((x_a.asideL (by omega)).asideL (by omega)).c1, ((x_a.asideL (by omega)).asideL (by omega)).c2, ((x_a.asideL (by omega)).asideL (by omega)).c3, ((x_a.asideL (by omega)).asideL (by omega)).c4⟩) | go_keep)
  (first | (go_at_call 43; (with_reducible refine (RDown_any h.drw (q - p) (by omega) k hk (by omega)).mono ?_); rintro e v3 ⟨A5, n5, c5, rfl, z5, hb1⟩; replace hb1 := undrew hb1; obtain ⟨x_a, x_r, h, h2⟩ := mv4 hb1 x_a x_r h h2; replace hb := bthen hb hb1; clear hb1; replace q_a := x_a.al; replace q_r := x_r.al; rw [HL.out] at z5 ⊢) | (go_at_call 44; (with_reducible refine (ROver_any h2 (q - p) (by omega) k hk2 (by omega)).mono ?_); rintro e v4 ⟨A6, n6, c6, rfl, z6, hb1⟩; obtain ⟨x_a, x_r, h, h2, z5⟩ := mv5 hb1 x_a x_r h h2 z5; replace hb := bthen hb hb1; clear hb1; replace q_a := x_a.al; replace q_r := x_r.al; rw [HH.out] at z6 ⊢))
 go_wp2
 replace x_a := x_a.asideL (b' := (ngB L)) (A' := A5) (n' := n5) (c' := c5) (p' := (ngB H)) (B' := A6) (m' := n6) (d' := c6) (e' := p) (g := w.heap.size + 1) (by omega)
 replace h := h.putL (b' := (ngB L)) (A' := A5) (n' := n5) (c' := c5) (p' := (ngB H)) (B' := A6) (m' := n6) (d' := c6) (e' := p) x_r
 replace h2 := h2.putL (b' := (ngB L)) (A' := A5) (n' := n5) (c' := c5) (p' := (ngB H)) (B' := A6) (m' := n6) (d' := c6) (e' := p) x_r
 replace z5 := z5.putL (b' := (ngB L)) (A' := A5) (n' := n5) (c' := c5) (p' := (ngB H)) (B' := A6) (m' := n6) (d' := c6) (e' := p) x_r
 replace z6 := z6.putL (b' := (ngB L)) (A' := A5) (n' := n5) (c' := c5) (p' := (ngB H)) (B' := A6) (m' := n6) (d' := c6) (e' := p) x_r
 replace hb := put_belowL (g := w.heap.size + 1) hb (by omega) (.bool (ngB L)) (.slice A5 n5 c5) (.bool (ngB H)) (.slice A6 n6 c6) (.int .i64 p)
 replace x_r := x_r.put (ngB L) A5 n5 c5 (ngB H) A6 n6 c6 p
 clear q_a q_r
 generalize ((((v4.setCell ⟨w.heap.size + 1, 0, none⟩ (.bool (ngB L))).setCell ⟨w.heap.size + 1, 1, none⟩ (.slice A5 n5 c5)).setCell ⟨w.heap.size + 1, 2, none⟩ (.bool (ngB H))).setCell ⟨w.heap.size + 1, 3, none⟩ (.slice A6 n6 c6)).setCell ⟨w.heap.size + 1, 4, none⟩ (.int .i64 p) = v5 at *
 have q_a := x_a.al
 have q_r := x_r.al
 refine bodyPost_ret (v := .tuple #[.agg #[.bool (ngB L), .slice A5 n5 c5, .bool (ngB H), .slice A6 n6 c6, .int .i64 p], .int .i64 0]) (by simp [results, Tryz.results17, go_sem, q_r]) rfl ?_
 exact ⟨_, _, _, _, _, _, rfl, z5, z6, hb⟩

end Go.Proofs.YtiikmjnnlckiiaaGreat
