/-
 ball: Times.
-/
import Derived.Test.YtiikmjnnlckiiaaGreatLint
import Derived.Deep.DeepCutAuto
import Derived.Test.YtiikmjnnlckiiaaGreatLpoint
import Derived.Test.YtiikmjnnlckiiaaGreatLclos
namespace Go.Proofs.YtiikmjnnlckiiaaGreat
open Go.RowKit
set_option linter.unusedVariables false

theorem Bx.at_size {w : World} {N : Nat} {b : Bool} {A : Option Addr} {n c : Nat} (h : w.heap.size = N) : Bx (w.alloc (.cells #[.bool b, .slice A n c] 25)) N b A n c := by subst h; exact Bx.new w b A n c
theorem put_size (w : World) (g : Nat) (b : Bool) (A : Option Addr) (n c : Nat) : ((w.setCell ⟨g, 0, none⟩ (.bool b)).setCell ⟨g, 1, none⟩ (.slice A n c)).heap.size = w.heap.size := by simp [World.setCell]
theorem alloc_size (w : World) (o : Obj) : (w.alloc o).heap.size = w.heap.size + 1 := by simp
section
variable {v wx : World} {X Y : Int} {k k2 g h n c n2 c2 m d m2 d2 : Nat} {b b2 p p2 : Bool} {A A2 B B2 : Option Addr}
end
end Go.Proofs.YtiikmjnnlckiiaaGreat
namespace Go.Proofs.YtiikmjnnlckiiaaGreat
open Go.RowKit
set_option linter.unusedVariables false

/-- Two new boxes of integers in normal form, in a world that is otherwise as it was. -/
def BnNew2 (v : World) (X Y : Int) (k k2 : Nat) (s t : Value) (wx : World) : Prop :=
 ∃ g h A n c A2 n2 c2, s = .pointer (some ⟨g, 0, none⟩) ∧ t = .pointer (some ⟨h, 0, none⟩) ∧ g ≠ h ∧ Bx wx g (ngB X) A n c ∧ Bx wx h (ngB Y) A2 n2 c2 ∧ Zn wx A n c X k ∧ Zn wx A2 n2 c2 Y k2 ∧ v.heap.size ≤ g ∧ v.heap.size ≤ h ∧ Below v.heap.size v wx
section
variable {v wx : World} {X Y : Int} {k k2 g h n c n2 c2 m d m2 d2 : Nat} {p p2 : Bool} {A A2 B B2 : Option Addr}
theorem BnNew2.ee (hv : Below v.heap.size v wx) (x6 : Bx wx g p B m d) (hg : v.heap.size ≤ g) (x7 : Bx wx h p2 B2 m2 d2) (hh : v.heap.size ≤ h) (hne : g ≠ h) (z : Zn wx A n c X k) (z2 : Zn wx A2 n2 c2 Y k2) : BnNew2 v X Y k k2 (.pointer (some ⟨g, 0, none⟩)) (.pointer (some ⟨h, 0, none⟩)) ((((wx.setCell ⟨g, 0, none⟩ (.bool (ngB X))).setCell ⟨g, 1, none⟩ (.slice A n c)).setCell ⟨h, 0, none⟩ (.bool (ngB Y))).setCell ⟨h, 1, none⟩ (.slice A2 n2 c2)) :=
 ⟨g, h, _, _, _, _, _, _, rfl, rfl, hne, (x6.put _ _ _ _).aside hne, (x7.aside (Ne.symm hne)).put _ _ _ _, (z.put x6).put (x7.aside (Ne.symm hne)), (z2.put x6).put (x7.aside (Ne.symm hne)), hg, hh, put_below (put_below hv hg _ _) hh _ _⟩
theorem BnNew2.el (hv : Below v.heap.size v wx) (x6 : Bx wx g p B m d) (hg : v.heap.size ≤ g) (z : Zn wx A n c X k) (z2 : Zn wx A2 n2 c2 Y k2) : BnNew2 v X Y k k2 (.pointer (some ⟨g, 0, none⟩)) (.pointer (some ⟨wx.heap.size, 0, none⟩)) (((wx.setCell ⟨g, 0, none⟩ (.bool (ngB X))).setCell ⟨g, 1, none⟩ (.slice A n c)).alloc (.cells #[.bool (ngB Y), .slice A2 n2 c2] 25)) :=
 ⟨g, wx.heap.size, _, _, _, _, _, _, rfl, rfl, Nat.ne_of_lt x6.lt, (x6.put _ _ _ _).alloc _, Bx.at_size (put_size _ _ _ _ _ _), (z.put x6).keep (below_alloc _ _), (z2.put x6).keep (below_alloc _ _), hg, hv.size, bthen (put_below hv hg _ _) (below_alloc _ _)⟩
theorem BnNew2.gl (hv : Below v.heap.size v wx) (x7 : Bx wx h p2 B2 m2 d2) (hh : v.heap.size ≤ h) (z : Zn wx A n c X k) (z2 : Zn wx A2 n2 c2 Y k2) : BnNew2 v X Y k k2 (.pointer (some ⟨wx.heap.size, 0, none⟩)) (.pointer (some ⟨h, 0, none⟩)) (((wx.setCell ⟨h, 0, none⟩ (.bool (ngB Y))).setCell ⟨h, 1, none⟩ (.slice A2 n2 c2)).alloc (.cells #[.bool (ngB X), .slice A n c] 25)) :=
 ⟨wx.heap.size, h, _, _, _, _, _, _, rfl, rfl, Ne.symm (Nat.ne_of_lt x7.lt), Bx.at_size (put_size _ _ _ _ _ _), (x7.put _ _ _ _).alloc _, (z.put x7).keep (below_alloc _ _), (z2.put x7).keep (below_alloc _ _), hv.size, hh, bthen (put_below hv hh _ _) (below_alloc _ _)⟩
theorem BnNew2.ll (hv : Below v.heap.size v wx) (z : Zn wx A n c X k) (z2 : Zn wx A2 n2 c2 Y k2) : BnNew2 v X Y k k2 (.pointer (some ⟨wx.heap.size, 0, none⟩)) (.pointer (some ⟨wx.heap.size + 1, 0, none⟩)) ((wx.alloc (.cells #[.bool (ngB X), .slice A n c] 25)).alloc (.cells #[.bool (ngB Y), .slice A2 n2 c2] 25)) :=
 ⟨wx.heap.size, wx.heap.size + 1, _, _, _, _, _, _, rfl, rfl, by omega, (Bx.new _ _ _ _ _).alloc _, Bx.at_size (alloc_size _ _), z.keep (below_alloc2 _ _ _), z2.keep (below_alloc2 _ _ _), hv.size, Nat.le_succ_of_le hv.size, bthen hv (below_alloc2 _ _ _)⟩
theorem BnNew2.mm (hv : Below v.heap.size v wx) (z : Zn wx A n c X k) (z2 : Zn wx A2 n2 c2 Y k2) : BnNew2 v X Y k k2 (.pointer (some ⟨wx.heap.size + 1, 0, none⟩)) (.pointer (some ⟨wx.heap.size, 0, none⟩)) ((wx.alloc (.cells #[.bool (ngB Y), .slice A2 n2 c2] 25)).alloc (.cells #[.bool (ngB X), .slice A n c] 25)) :=
 ⟨wx.heap.size + 1, wx.heap.size, _, _, _, _, _, _, rfl, rfl, by omega, Bx.at_size (alloc_size _ _), (Bx.new _ _ _ _ _).alloc _, z.keep (below_alloc2 _ _ _), z2.keep (below_alloc2 _ _ _), Nat.le_succ_of_le hv.size, hv.size, bthen hv (below_alloc2 _ _ _)⟩
end
end Go.Proofs.YtiikmjnnlckiiaaGreat
namespace Go.Proofs.YtiikmjnnlckiiaaGreat
open Go.RowKit
set_option linter.unusedVariables false

theorem tm_neg {X Y K : Int} (h : X ≤ Y) (hK : K < 0) : min (X * K) (Y * K) = Y * K ∧ max (X * K) (Y * K) = X * K := by
 have := Int.mul_le_mul_of_nonpos_right h (Int.le_of_lt hK)
 omega
theorem tm_pos {X Y K : Int} (h : X ≤ Y) (hK : 0 ≤ K) : min (X * K) (Y * K) = X * K ∧ max (X * K) (Y * K) = Y * K := by
 have := Int.mul_le_mul_of_nonneg_right h hK
 omega

set_option maxRecDepth 100000 in
set_option maxHeartbeats 8000000 in
theorem Times_yes {b b2 : Bool} {A A2 : Option Addr} {n c n2 c2 : Nat} {X Y q : Int} {j j2 : Nat} {w : World} (h : Zr w b A n c X j) (h2 : Zr w b2 A2 n2 c2 Y j2) {b3 : Bool} {A3 : Option Addr} {n3 c3 : Nat} {K : Int} {j3 : Nat} (h3 : Zr w b3 A3 n3 c3 K j3) (hv : 0 ≤ q ∧ q ≤ 2048 ∧ X ≤ Y) (hj : j ≤ 30) (hj2 : j2 ≤ 30) (hj3 : j3 ≤ 30) :
  Calls Tryz.prog 62 #[.agg #[.bool b, .slice A n c, .bool b2, .slice A2 n2 c2, .int .i64 q], .agg #[.bool b3, .slice A3 n3 c3]] w (OuL w (min (X * K) (Y * K)) (max (X * K) (Y * K)) q 60) := by
 have HR := Lib.hid (rB_yes hv)
 have i1 := sgnI_lt0 (X := K)
 obtain ⟨C, hC⟩ : ∃ C, sgnI K = C := ⟨_, rfl⟩
 rw [hC] at i1
 have HC := Lib.hid hC; clear hC
 rcases (show (C < 0 ∧ K < 0) ∨ (¬ C < 0 ∧ 0 ≤ K) by omega) with ⟨d1, hK⟩ | ⟨d1, hK⟩ <;> clear i1
 ·obtain ⟨e1, e2⟩ := tm_neg hv.2.2 hK
  rw [e1, e2]
  clear e1 e2 hv hK
  obtain ⟨M, hM⟩ : ∃ M, X * K = M := ⟨_, rfl⟩
  obtain ⟨N, hN⟩ : ∃ N, Y * K = N := ⟨_, rfl⟩
  rw [hM, hN]
  have HM := Lib.hid hM; have HN := Lib.hid hN; clear hM hN
  go_enter Tryz.func62, Tryz.ntmps62
  go_wp2_with fail
  have x_a : Lx (w.alloc (.cells #[.bool b, .slice A n c, .bool b2, .slice A2 n2 c2, .int .i64 q] 27)) (w.heap.size) b A n c b2 A2 n2 c2 q := by have := Lx.new w b A n c b2 A2 n2 c2 q; simpa using this
  replace x_a := x_a.alloc (.cells #[.bool b3, .slice A3 n3 c3] 25)
  have x_k : Bx ((w.alloc (.cells #[.bool b, .slice A n c, .bool b2, .slice A2 n2 c2, .int .i64 q] 27)).alloc (.cells #[.bool b3, .slice A3 n3 c3] 25)) (w.heap.size + 1) b3 A3 n3 c3 := by have := Bx.new (w.alloc (.cells #[.bool b, .slice A n c, .bool b2, .slice A2 n2 c2, .int .i64 q] 27)) b3 A3 n3 c3; simpa using this
  replace x_a := x_a.alloc (.cells #[.bool false, .slice none 0 0, .bool false, .slice none 0 0, .int .i64 0] 27)
  replace x_k := x_k.alloc (.cells #[.bool false, .slice none 0 0, .bool false, .slice none 0 0, .int .i64 0] 27)
  have x_r : Lx (((w.alloc (.cells #[.bool b, .slice A n c, .bool b2, .slice A2 n2 c2, .int .i64 q] 27)).alloc (.cells #[.bool b3, .slice A3 n3 c3] 25)).alloc (.cells #[.bool false, .slice none 0 0, .bool false, .slice none 0 0, .int .i64 0] 27)) (w.heap.size + 1 + 1) false none 0 0 false none 0 0 0 := by have := Lx.new ((w.alloc (.cells #[.bool b, .slice A n c, .bool b2, .slice A2 n2 c2, .int .i64 q] 27)).alloc (.cells #[.bool b3, .slice A3 n3 c3] 25)) false none 0 0 false none 0 0 0; simpa using this
  have hb : Below w.heap.size w (((w.alloc (.cells #[.bool b, .slice A n c, .bool b2, .slice A2 n2 c2, .int .i64 q] 27)).alloc (.cells #[.bool b3, .slice A3 n3 c3] 25)).alloc (.cells #[.bool false, .slice none 0 0, .bool false, .slice none 0 0, .int .i64 0] 27)) := (Below.alloc (Below.alloc (Below.alloc (Below.refl w.heap.size w) (by simp) (.cells #[.bool b, .slice A n c, .bool b2, .slice A2 n2 c2, .int .i64 q] 27)) (by simp) (.cells #[.bool b3, .slice A3 n3 c3] 25)) (by simp; omega) (.cells #[.bool false, .slice none 0 0, .bool false, .slice none 0 0, .int .i64 0] 27))
  generalize ((w.alloc (.cells #[.bool b, .slice A n c, .bool b2, .slice A2 n2 c2, .int .i64 q] 27)).alloc (.cells #[.bool b3, .slice A3 n3 c3] 25)).alloc (.cells #[.bool false, .slice none 0 0, .bool false, .slice none 0 0, .int .i64 0] 27) = v1 at *
  obtain ⟨h, h2, h3⟩ := mv3 hb h h2 h3
  obtain ⟨q_a0, f_a0, q_a1, f_a1, q_a2, f_a2, q_a3, f_a3, q_a4, f_a4⟩ := x_a.al
  obtain ⟨q_k0, f_k0, q_k1, f_k1⟩ := x_k.al
  obtain ⟨q_r0, f_r0, q_r1, f_r1, q_r2, f_r2, q_r3, f_r3, q_r4, f_r4⟩ := x_r.al
  go_wp2_with fail
  with_reducible refine (Right_any h h2 (by omega) (by omega)).mono ?_
  rintro e v2 ⟨rfl, hb1⟩
  obtain ⟨x_a, x_k, x_r, h, h2, h3⟩ := mv6 hb1 x_a x_k x_r h h2 h3
  replace hb := bthen hb hb1
  clear hb1
  clear q_a0 f_a0 q_a1 f_a1 q_a2 f_a2 q_a3 f_a3 q_a4 f_a4; obtain ⟨q_a0, f_a0, q_a1, f_a1, q_a2, f_a2, q_a3, f_a3, q_a4, f_a4⟩ := x_a.al
  clear q_k0 f_k0 q_k1 f_k1; obtain ⟨q_k0, f_k0, q_k1, f_k1⟩ := x_k.al
  clear q_r0 f_r0 q_r1 f_r1 q_r2 f_r2 q_r3 f_r3 q_r4 f_r4; obtain ⟨q_r0, f_r0, q_r1, f_r1, q_r2, f_r2, q_r3, f_r3, q_r4, f_r4⟩ := x_r.al
  rw [HR.out]
  go_upto_region 3 with fail
  have hv := Below.refl v2.heap.size v2
  have l_a_l := x_a.lt
  have l_k_l := x_k.lt
  have l_r_l := x_r.lt
  go_cut [6, 7] (fun s9 t9 wx => BnNew2 v2 M N 60 60 s9 t9 wx)
  case first =>
   go_region_held3 (fun w' => w'.cell? ⟨w.heap.size, 0, none⟩ = some (.bool b) ∧ w'.cell? ⟨w.heap.size, 1, none⟩ = some (.slice A n c) ∧ w'.cell? ⟨w.heap.size, 2, none⟩ = some (.bool b2) ∧ w'.cell? ⟨w.heap.size, 3, none⟩ = some (.slice A2 n2 c2) ∧ w'.cell? ⟨w.heap.size, 4, none⟩ = some (.int .i64 q) ∧ w'.cell? ⟨w.heap.size + 1, 0, none⟩ = some (.bool b3) ∧ w'.cell? ⟨w.heap.size + 1, 1, none⟩ = some (.slice A3 n3 c3))
    (first | (with_reducible exact ⟨x_a.c0, x_a.c1, x_a.c2, x_a.c3, x_a.c4, x_k.c0, x_k.c1⟩) | (with_reducible exact ⟨(x_a.alloc _).c0, (x_a.alloc _).c1, (x_a.alloc _).c2, (x_a.alloc _).c3, (x_a.alloc _).c4, (x_k.alloc _).c0, (x_k.alloc _).c1⟩) | (with_reducible exact ⟨((x_a.alloc _).alloc _).c0, ((x_a.alloc _).alloc _).c1, ((x_a.alloc _).alloc _).c2, ((x_a.alloc _).alloc _).c3, ((x_a.alloc _).alloc _).c4, ((x_k.alloc _).alloc _).c0, ((x_k.alloc _).alloc _).c1⟩) | (with_reducible exact ⟨(x_a.aside (by omega)).c0, (x_a.aside (by omega)).c1, (x_a.aside (by omega)).c2, (x_a.aside (by omega)).c3, (x_a.aside (by omega)).c4, (x_k.aside (by omega)).c0, (x_k.aside (by omega)).c1⟩) | (with_reducible exact ⟨((x_a.alloc _).aside (by omega)).c0, ((x_a.alloc _).aside (by omega)).c1, ((x_a.alloc _).aside (by omega)).c2, ((x_a.alloc _).aside (by omega)).c3, ((x_a.alloc _).aside (by omega)).c4, ((x_k.alloc _).aside (by omega)).c0, ((x_k.alloc _).aside (by omega)).c1⟩) | (with_reducible exact ⟨((x_a.aside (by omega)).alloc _).c0, ((x_a.aside (by omega)).alloc _).c1, ((x_a.aside (by omega)).alloc _).c2, ((x_a.aside (by omega)).alloc _).c3, ((x_a.aside (by omega)).alloc _).c4, ((x_k.aside (by omega)).alloc _).c0, ((x_k.aside (by omega)).alloc _).c1⟩) | (with_reducible exact ⟨(((x_a.alloc _).alloc _).aside (by omega)).c0, (((x_a.alloc _).alloc _).aside (by omega)).c1, (((x_a.alloc _).alloc _).aside (by omega)).c2, (((x_a.alloc _).alloc _).aside (by omega)).c3, (((x_a.alloc _).alloc _).aside (by omega)).c4, (((x_k.alloc _).alloc _).aside (by omega)).c0, (((x_k.alloc _).alloc _).aside (by omega)).c1⟩) | (with_reducible exact ⟨((x_a.aside (by omega)).aside (by omega)).c0, ((x_a.aside (by omega)).aside (by omega)).c1, ((x_a.aside (by omega)).aside (by omega)).c2, ((x_a.aside (by omega)).aside (by omega)).c3, ((x_a.aside (by omega)).aside (by omega)).c4, ((x_k.aside (by omega)).aside (by omega)).c0, ((x_k.aside (by omega)).aside (by omega)).c1⟩) | (with_reducible exact ⟨(((x_a.alloc _).aside (by omega)).aside (by omega)).c0, (((x_a.alloc _).aside (by omega)).aside (by omega)).c1, (((x_a.alloc _).aside (by omega)).aside (by omega)).c2, (((x_a.alloc _).aside (by omega)).aside (by omega)).c3, (((x_a.alloc _).aside (by omega)).aside (by omega)).c4, (((x_k.alloc _).aside (by omega)).aside (by omega)).c0, (((x_k.alloc _).aside (by omega)).aside (by omega)).c1⟩) | (with_reducible exact ⟨((((x_a.alloc _).alloc _).aside (by omega)).aside (by omega)).c0, ((((x_a.alloc _).alloc _).aside (by omega)).aside (by omega)).c1, ((((x_a.alloc _).alloc _).aside (by omega)).aside (by omega)).c2, ((((x_a.alloc _).alloc _).aside (by omega)).aside (by omega)).c3, ((((x_a.alloc _).alloc _).aside (by omega)).aside (by omega)).c4, ((((x_k.alloc _).alloc _).aside (by omega)).aside (by omega)).c0, ((((x_k.alloc _).alloc _).aside (by omega)).aside (by omega)).c1⟩) | go_keep)
    (first | (go_at_call 96; (with_reducible refine (ZMul_any h.drw h3.drw 60 (by omega) (by omega)).mono ?_); rintro e v3 ⟨A5, n5, c5, rfl, z5, hb1⟩; replace hb1 := undrew hb1; (try replace x_n1 := x_n1.keep hb1); (try replace x_n2 := x_n2.keep hb1); replace hv := bthen hv hb1; have hvs_v3 := hv.size; obtain ⟨x_a, x_k, x_r, h, h2, h3⟩ := mv6 hb1 x_a x_k x_r h h2 h3; replace hb := bthen hb hb1; clear hb1; clear q_a0 f_a0 q_a1 f_a1 q_a2 f_a2 q_a3 f_a3 q_a4 f_a4; obtain ⟨q_a0, f_a0, q_a1, f_a1, q_a2, f_a2, q_a3, f_a3, q_a4, f_a4⟩ := x_a.al; clear q_k0 f_k0 q_k1 f_k1; obtain ⟨q_k0, f_k0, q_k1, f_k1⟩ := x_k.al; clear q_r0 f_r0 q_r1 f_r1 q_r2 f_r2 q_r3 f_r3 q_r4 f_r4; obtain ⟨q_r0, f_r0, q_r1, f_r1, q_r2, f_r2, q_r3, f_r3, q_r4, f_r4⟩ := x_r.al; rw [HM.out] at z5 ⊢; (try (obtain ⟨q_n10, f_n10, q_n11, f_n11⟩ := x_n1.al; have lt_n1 := x_n1.lt; have y_n1 := x_n1.alloc (.cells #[.bool false, .slice none 0 0] 25); have qy_n10 := y_n1.c0; have fy_n10 := y_n1.fr 0; have qy_n11 := y_n1.c1; have fy_n11 := y_n1.fr 1)); (try (obtain ⟨q_n20, f_n20, q_n21, f_n21⟩ := x_n2.al; have lt_n2 := x_n2.lt; have y_n2 := x_n2.alloc (.cells #[.bool false, .slice none 0 0] 25); have qy_n20 := y_n2.c0; have fy_n20 := y_n2.fr 0; have qy_n21 := y_n2.c1; have fy_n21 := y_n2.fr 1))) | (go_at_call 96; (with_reducible refine (ZMul_any (h.keep (below_alloc v2 (.cells #[.bool false, .slice none 0 0] 25))).drw (h3.keep (below_alloc v2 (.cells #[.bool false, .slice none 0 0] 25))).drw 60 (by omega) (by omega)).mono ?_); rintro e v3 ⟨A5, n5, c5, rfl, z5, hb1⟩; replace hb1 := undrew hb1; (first | (have lt_n := x_n1.lt; replace x_n1 := x_n1.keep (bthen (below_alloc v2 (.cells #[.bool false, .slice none 0 0] 25)) hb1); have x_n2 := (Bx.new v2 false none 0 0).keep hb1) | (have x_n1 := (Bx.new v2 false none 0 0).keep hb1)); replace hb1 := bthen (below_alloc v2 (.cells #[.bool false, .slice none 0 0] 25)) hb1; replace hv := bthen hv hb1; have hvs_v3 := hv.size; obtain ⟨x_a, x_k, x_r, h, h2, h3⟩ := mv6 hb1 x_a x_k x_r h h2 h3; replace hb := bthen hb hb1; clear hb1; clear q_a0 f_a0 q_a1 f_a1 q_a2 f_a2 q_a3 f_a3 q_a4 f_a4; obtain ⟨q_a0, f_a0, q_a1, f_a1, q_a2, f_a2, q_a3, f_a3, q_a4, f_a4⟩ := x_a.al; clear q_k0 f_k0 q_k1 f_k1; obtain ⟨q_k0, f_k0, q_k1, f_k1⟩ := x_k.al; clear q_r0 f_r0 q_r1 f_r1 q_r2 f_r2 q_r3 f_r3 q_r4 f_r4; obtain ⟨q_r0, f_r0, q_r1, f_r1, q_r2, f_r2, q_r3, f_r3, q_r4, f_r4⟩ := x_r.al; rw [HM.out] at z5 ⊢; (try (obtain ⟨q_n10, f_n10, q_n11, f_n11⟩ := x_n1.al; have lt_n1 := x_n1.lt; have y_n1 := x_n1.alloc (.cells #[.bool false, .slice none 0 0] 25); have qy_n10 := y_n1.c0; have fy_n10 := y_n1.fr 0; have qy_n11 := y_n1.c1; have fy_n11 := y_n1.fr 1)); (try (obtain ⟨q_n20, f_n20, q_n21, f_n21⟩ := x_n2.al; have lt_n2 := x_n2.lt; have y_n2 := x_n2.alloc (.cells #[.bool false, .slice none 0 0] 25); have qy_n20 := y_n2.c0; have fy_n20 := y_n2.fr 0; have qy_n21 := y_n2.c1; have fy_n21 := y_n2.fr 1))) | (go_at_call 96; (with_reducible refine (ZMul_any (h.keep (below_alloc2 v2 (.cells #[.bool false, .slice none 0 0] 25) (.cells #[.bool false, .slice none 0 0] 25))).drw (h3.keep (below_alloc2 v2 (.cells #[.bool false, .slice none 0 0] 25) (.cells #[.bool false, .slice none 0 0] 25))).drw 60 (by omega) (by omega)).mono ?_); rintro e v3 ⟨A5, n5, c5, rfl, z5, hb1⟩; replace hb1 := undrew hb1; have x_n1 := ((Bx.new v2 false none 0 0).alloc (.cells #[.bool false, .slice none 0 0] 25)).keep hb1; have x_n2 := (Bx.at_size (alloc_size v2 (.cells #[.bool false, .slice none 0 0] 25)) : Bx ((v2.alloc (.cells #[.bool false, .slice none 0 0] 25)).alloc (.cells #[.bool false, .slice none 0 0] 25)) (v2.heap.size + 1) false none 0 0).keep hb1; replace hb1 := bthen (below_alloc2 v2 (.cells #[.bool false, .slice none 0 0] 25) (.cells #[.bool false, .slice none 0 0] 25)) hb1; replace hv := bthen hv hb1; have hvs_v3 := hv.size; obtain ⟨x_a, x_k, x_r, h, h2, h3⟩ := mv6 hb1 x_a x_k x_r h h2 h3; replace hb := bthen hb hb1; clear hb1; clear q_a0 f_a0 q_a1 f_a1 q_a2 f_a2 q_a3 f_a3 q_a4 f_a4; obtain ⟨q_a0, f_a0, q_a1, f_a1, q_a2, f_a2, q_a3, f_a3, q_a4, f_a4⟩ := x_a.al; clear q_k0 f_k0 q_k1 f_k1; obtain ⟨q_k0, f_k0, q_k1, f_k1⟩ := x_k.al; clear q_r0 f_r0 q_r1 f_r1 q_r2 f_r2 q_r3 f_r3 q_r4 f_r4; obtain ⟨q_r0, f_r0, q_r1, f_r1, q_r2, f_r2, q_r3, f_r3, q_r4, f_r4⟩ := x_r.al; rw [HM.out] at z5 ⊢; (try (obtain ⟨q_n10, f_n10, q_n11, f_n11⟩ := x_n1.al; have lt_n1 := x_n1.lt; have y_n1 := x_n1.alloc (.cells #[.bool false, .slice none 0 0] 25); have qy_n10 := y_n1.c0; have fy_n10 := y_n1.fr 0; have qy_n11 := y_n1.c1; have fy_n11 := y_n1.fr 1)); (try (obtain ⟨q_n20, f_n20, q_n21, f_n21⟩ := x_n2.al; have lt_n2 := x_n2.lt; have y_n2 := x_n2.alloc (.cells #[.bool false, .slice none 0 0] 25); have qy_n20 := y_n2.c0; have fy_n20 := y_n2.fr 0; have qy_n21 := y_n2.c1; have fy_n21 := y_n2.fr 1))) | (go_at_call 96; (with_reducible refine (ZMul_any h2 h3 60 (by omega) (by omega)).mono ?_); rintro e v4 ⟨A6, n6, c6, rfl, z6, hb1⟩; (try replace x_n1 := x_n1.keep hb1); (try replace x_n2 := x_n2.keep hb1); replace hv := bthen hv hb1; have hvs_v4 := hv.size; obtain ⟨x_a, x_k, x_r, h, h2, h3, z5⟩ := mv7 hb1 x_a x_k x_r h h2 h3 z5; replace hb := bthen hb hb1; clear hb1; clear q_a0 f_a0 q_a1 f_a1 q_a2 f_a2 q_a3 f_a3 q_a4 f_a4; obtain ⟨q_a0, f_a0, q_a1, f_a1, q_a2, f_a2, q_a3, f_a3, q_a4, f_a4⟩ := x_a.al; clear q_k0 f_k0 q_k1 f_k1; obtain ⟨q_k0, f_k0, q_k1, f_k1⟩ := x_k.al; clear q_r0 f_r0 q_r1 f_r1 q_r2 f_r2 q_r3 f_r3 q_r4 f_r4; obtain ⟨q_r0, f_r0, q_r1, f_r1, q_r2, f_r2, q_r3, f_r3, q_r4, f_r4⟩ := x_r.al; rw [HN.out] at z6 ⊢; (try (obtain ⟨q_n10, f_n10, q_n11, f_n11⟩ := x_n1.al; have lt_n1 := x_n1.lt; have y_n1 := x_n1.alloc (.cells #[.bool false, .slice none 0 0] 25); have qy_n10 := y_n1.c0; have fy_n10 := y_n1.fr 0; have qy_n11 := y_n1.c1; have fy_n11 := y_n1.fr 1)); (try (obtain ⟨q_n20, f_n20, q_n21, f_n21⟩ := x_n2.al; have lt_n2 := x_n2.lt; have y_n2 := x_n2.alloc (.cells #[.bool false, .slice none 0 0] 25); have qy_n20 := y_n2.c0; have fy_n20 := y_n2.fr 0; have qy_n21 := y_n2.c1; have fy_n21 := y_n2.fr 1))) | (go_at_call 96; (with_reducible refine (ZMul_any (h2.keep (below_alloc v3 (.cells #[.bool false, .slice none 0 0] 25))) (h3.keep (below_alloc v3 (.cells #[.bool false, .slice none 0 0] 25))) 60 (by omega) (by omega)).mono ?_); rintro e v4 ⟨A6, n6, c6, rfl, z6, hb1⟩; (first | (have lt_n := x_n1.lt; replace x_n1 := x_n1.keep (bthen (below_alloc v3 (.cells #[.bool false, .slice none 0 0] 25)) hb1); have x_n2 := (Bx.new v3 false none 0 0).keep hb1) | (have x_n1 := (Bx.new v3 false none 0 0).keep hb1)); replace hb1 := bthen (below_alloc v3 (.cells #[.bool false, .slice none 0 0] 25)) hb1; replace hv := bthen hv hb1; have hvs_v4 := hv.size; obtain ⟨x_a, x_k, x_r, h, h2, h3, z5⟩ := mv7 hb1 x_a x_k x_r h h2 h3 z5; replace hb := bthen hb hb1; clear hb1; clear q_a0 f_a0 q_a1 f_a1 q_a2 f_a2 q_a3 f_a3 q_a4 f_a4; obtain ⟨q_a0, f_a0, q_a1, f_a1, q_a2, f_a2, q_a3, f_a3, q_a4, f_a4⟩ := x_a.al; clear q_k0 f_k0 q_k1 f_k1; obtain ⟨q_k0, f_k0, q_k1, f_k1⟩ := x_k.al; clear q_r0 f_r0 q_r1 f_r1 q_r2 f_r2 q_r3 f_r3 q_r4 f_r4; obtain ⟨q_r0, f_r0, q_r1, f_r1, q_r2, f_r2, q_r3, f_r3, q_r4, f_r4⟩ := x_r.al; rw [HN.out] at z6 ⊢; (try (obtain ⟨q_n10, f_n10, q_n11, f_n11⟩ := x_n1.al; have lt_n1 := x_n1.lt; have y_n1 := x_n1.alloc (.cells #[.bool false, .slice none 0 0] 25); have qy_n10 := y_n1.c0; have fy_n10 := y_n1.fr 0; have qy_n11 := y_n1.c1; have fy_n11 := y_n1.fr 1)); (try (obtain ⟨q_n20, f_n20, q_n21, f_n21⟩ := x_n2.al; have lt_n2 := x_n2.lt; have y_n2 := x_n2.alloc (.cells #[.bool false, .slice none 0 0] 25); have qy_n20 := y_n2.c0; have fy_n20 := y_n2.fr 0; have qy_n21 := y_n2.c1; have fy_n21 := y_n2.fr 1))) | (go_at_call 96; (with_reducible refine (ZMul_any (h2.keep (below_alloc2 v3 (.cells #[.bool false, .slice none 0 0] 25) (.cells #[.bool false, .slice none 0 0] 25))) (h3.keep (below_alloc2 v3 (.cells #[.bool false, .slice none 0 0] 25) (.cells #[.bool false, .slice none 0 0] 25))) 60 (by omega) (by omega)).mono ?_); rintro e v4 ⟨A6, n6, c6, rfl, z6, hb1⟩; have x_n1 := ((Bx.new v3 false none 0 0).alloc (.cells #[.bool false, .slice none 0 0] 25)).keep hb1; have x_n2 := (Bx.at_size (alloc_size v3 (.cells #[.bool false, .slice none 0 0] 25)) : Bx ((v3.alloc (.cells #[.bool false, .slice none 0 0] 25)).alloc (.cells #[.bool false, .slice none 0 0] 25)) (v3.heap.size + 1) false none 0 0).keep hb1; replace hb1 := bthen (below_alloc2 v3 (.cells #[.bool false, .slice none 0 0] 25) (.cells #[.bool false, .slice none 0 0] 25)) hb1; replace hv := bthen hv hb1; have hvs_v4 := hv.size; obtain ⟨x_a, x_k, x_r, h, h2, h3, z5⟩ := mv7 hb1 x_a x_k x_r h h2 h3 z5; replace hb := bthen hb hb1; clear hb1; clear q_a0 f_a0 q_a1 f_a1 q_a2 f_a2 q_a3 f_a3 q_a4 f_a4; obtain ⟨q_a0, f_a0, q_a1, f_a1, q_a2, f_a2, q_a3, f_a3, q_a4, f_a4⟩ := x_a.al; clear q_k0 f_k0 q_k1 f_k1; obtain ⟨q_k0, f_k0, q_k1, f_k1⟩ := x_k.al; clear q_r0 f_r0 q_r1 f_r1 q_r2 f_r2 q_r3 f_r3 q_r4 f_r4; obtain ⟨q_r0, f_r0, q_r1, f_r1, q_r2, f_r2, q_r3, f_r3, q_r4, f_r4⟩ := x_r.al; rw [HN.out] at z6 ⊢; (try (obtain ⟨q_n10, f_n10, q_n11, f_n11⟩ := x_n1.al; have lt_n1 := x_n1.lt; have y_n1 := x_n1.alloc (.cells #[.bool false, .slice none 0 0] 25); have qy_n10 := y_n1.c0; have fy_n10 := y_n1.fr 0; have qy_n11 := y_n1.c1; have fy_n11 := y_n1.fr 1)); (try (obtain ⟨q_n20, f_n20, q_n21, f_n21⟩ := x_n2.al; have lt_n2 := x_n2.lt; have y_n2 := x_n2.alloc (.cells #[.bool false, .slice none 0 0] 25); have qy_n20 := y_n2.c0; have fy_n20 := y_n2.fr 0; have qy_n21 := y_n2.c1; have fy_n21 := y_n2.fr 1))))
   all_goals go_wp2_with fail
   all_goals go_meet
   all_goals first | (with_reducible exact BnNew2.ll hv z5 z6) | (with_reducible exact BnNew2.mm hv z5 z6) | (with_reducible exact BnNew2.el hv x_n1 (by omega) z5 z6) | (with_reducible exact BnNew2.le hv x_n1 (by omega) z5 z6) | (with_reducible exact BnNew2.gl hv x_n1 (by omega) z5 z6) | (with_reducible exact BnNew2.lg hv x_n1 (by omega) z5 z6) | (with_reducible exact BnNew2.el hv x_n2 (by omega) z5 z6) | (with_reducible exact BnNew2.le hv x_n2 (by omega) z5 z6) | (with_reducible exact BnNew2.gl hv x_n2 (by omega) z5 z6) | (with_reducible exact BnNew2.lg hv x_n2 (by omega) z5 z6) | (with_reducible exact BnNew2.ee hv x_n1 (by omega) x_n2 (by omega) (by omega) z5 z6) | (with_reducible exact BnNew2.ff hv x_n1 (by omega) x_n2 (by omega) (by omega) z5 z6) | (with_reducible exact BnNew2.ee hv x_n2 (by omega) x_n1 (by omega) (by omega) z5 z6) | (with_reducible exact BnNew2.ff hv x_n2 (by omega) x_n1 (by omega) (by omega) z5 z6)
  case rest =>
   obtain ⟨g5, g6, Ax7, nx7, cx7, Ay7, ny7, cy7, rfl, rfl, ne_l, x_l, x_u, z_l, z_u, e_l, e_u, hb1⟩ := hcut
   clear hv
   obtain ⟨x_a, x_k, x_r, h, h2, h3⟩ := mv6 hb1 x_a x_k x_r h h2 h3
   replace hb := bthen hb hb1
   clear hb1
   clear q_a0 f_a0 q_a1 f_a1 q_a2 f_a2 q_a3 f_a3 q_a4 f_a4; obtain ⟨q_a0, f_a0, q_a1, f_a1, q_a2, f_a2, q_a3, f_a3, q_a4, f_a4⟩ := x_a.al
   clear q_k0 f_k0 q_k1 f_k1; obtain ⟨q_k0, f_k0, q_k1, f_k1⟩ := x_k.al
   clear q_r0 f_r0 q_r1 f_r1 q_r2 f_r2 q_r3 f_r3 q_r4 f_r4; obtain ⟨q_r0, f_r0, q_r1, f_r1, q_r2, f_r2, q_r3, f_r3, q_r4, f_r4⟩ := x_r.al
   clear q_a0 f_a0 q_a1 f_a1 q_a2 f_a2 q_a3 f_a3 q_a4 f_a4 q_k0 f_k0 q_k1 f_k1 q_r0 f_r0 q_r1 f_r1 q_r2 f_r2 q_r3 f_r3 q_r4 f_r4
   generalize wc = v8 at *
   obtain ⟨q_a0, f_a0, q_a1, f_a1, q_a2, f_a2, q_a3, f_a3, q_a4, f_a4⟩ := x_a.al
   obtain ⟨q_k0, f_k0, q_k1, f_k1⟩ := x_k.al
   obtain ⟨q_r0, f_r0, q_r1, f_r1, q_r2, f_r2, q_r3, f_r3, q_r4, f_r4⟩ := x_r.al
   obtain ⟨q_l0, f_l0, q_l1, f_l1⟩ := x_l.al
   obtain ⟨q_u0, f_u0, q_u1, f_u1⟩ := x_u.al
   go_wp2_with fail
   with_reducible refine (ZSign_any h3 (by omega)).mono ?_
   rintro e v9 ⟨rfl, hb1⟩
   obtain ⟨x_a, x_k, x_r, x_l, x_u, h, h2, h3, z_l⟩ := mv9 hb1 x_a x_k x_r x_l x_u h h2 h3 z_l
   replace z_u := z_u.keep hb1
   replace hb := bthen hb hb1
   clear hb1
   clear q_a0 f_a0 q_a1 f_a1 q_a2 f_a2 q_a3 f_a3 q_a4 f_a4; obtain ⟨q_a0, f_a0, q_a1, f_a1, q_a2, f_a2, q_a3, f_a3, q_a4, f_a4⟩ := x_a.al
   clear q_k0 f_k0 q_k1 f_k1; obtain ⟨q_k0, f_k0, q_k1, f_k1⟩ := x_k.al
   clear q_r0 f_r0 q_r1 f_r1 q_r2 f_r2 q_r3 f_r3 q_r4 f_r4; obtain ⟨q_r0, f_r0, q_r1, f_r1, q_r2, f_r2, q_r3, f_r3, q_r4, f_r4⟩ := x_r.al
   clear q_l0 f_l0 q_l1 f_l1; obtain ⟨q_l0, f_l0, q_l1, f_l1⟩ := x_l.al
   clear q_u0 f_u0 q_u1 f_u1; obtain ⟨q_u0, f_u0, q_u1, f_u1⟩ := x_u.al
   rw [HC.out]
   go_wp2
   replace x_a := x_a.aside (b' := (ngB N)) (A' := Ay7) (n' := ny7) (c' := cy7) (g := g5) (by omega)
   replace x_k := x_k.aside (b' := (ngB N)) (A' := Ay7) (n' := ny7) (c' := cy7) (g := g5) (by omega)
   replace x_r := x_r.aside (b' := (ngB N)) (A' := Ay7) (n' := ny7) (c' := cy7) (g := g5) (by omega)
   replace x_u := x_u.aside (b' := (ngB N)) (A' := Ay7) (n' := ny7) (c' := cy7) (g := g5) (by omega)
   replace h := h.put (b' := (ngB N)) (A' := Ay7) (n' := ny7) (c' := cy7) x_l
   replace h2 := h2.put (b' := (ngB N)) (A' := Ay7) (n' := ny7) (c' := cy7) x_l
   replace h3 := h3.put (b' := (ngB N)) (A' := Ay7) (n' := ny7) (c' := cy7) x_l
   replace z_l := z_l.put (b' := (ngB N)) (A' := Ay7) (n' := ny7) (c' := cy7) x_l
   replace z_u := z_u.put (b' := (ngB N)) (A' := Ay7) (n' := ny7) (c' := cy7) x_l
   replace hb := put_below (g := g5) hb (by omega) (.bool (ngB N)) (.slice Ay7 ny7 cy7)
   replace x_l := x_l.put (ngB N) Ay7 ny7 cy7
   clear q_a0 f_a0 q_a1 f_a1 q_a2 f_a2 q_a3 f_a3 q_a4 f_a4 q_k0 f_k0 q_k1 f_k1 q_r0 f_r0 q_r1 f_r1 q_r2 f_r2 q_r3 f_r3 q_r4 f_r4 q_l0 f_l0 q_l1 f_l1 q_u0 f_u0 q_u1 f_u1
   generalize (v9.setCell ⟨g5, 0, none⟩ (.bool (ngB N))).setCell ⟨g5, 1, none⟩ (.slice Ay7 ny7 cy7) = v10 at *
   obtain ⟨q_a0, f_a0, q_a1, f_a1, q_a2, f_a2, q_a3, f_a3, q_a4, f_a4⟩ := x_a.al
   obtain ⟨q_k0, f_k0, q_k1, f_k1⟩ := x_k.al
   obtain ⟨q_r0, f_r0, q_r1, f_r1, q_r2, f_r2, q_r3, f_r3, q_r4, f_r4⟩ := x_r.al
   obtain ⟨q_l0, f_l0, q_l1, f_l1⟩ := x_l.al
   obtain ⟨q_u0, f_u0, q_u1, f_u1⟩ := x_u.al
   replace x_a := x_a.aside (b' := (ngB M)) (A' := Ax7) (n' := nx7) (c' := cx7) (g := g6) (by omega)
   replace x_k := x_k.aside (b' := (ngB M)) (A' := Ax7) (n' := nx7) (c' := cx7) (g := g6) (by omega)
   replace x_r := x_r.aside (b' := (ngB M)) (A' := Ax7) (n' := nx7) (c' := cx7) (g := g6) (by omega)
   replace x_l := x_l.aside (b' := (ngB M)) (A' := Ax7) (n' := nx7) (c' := cx7) (g := g6) (by omega)
   replace h := h.put (b' := (ngB M)) (A' := Ax7) (n' := nx7) (c' := cx7) x_u
   replace h2 := h2.put (b' := (ngB M)) (A' := Ax7) (n' := nx7) (c' := cx7) x_u
   replace h3 := h3.put (b' := (ngB M)) (A' := Ax7) (n' := nx7) (c' := cx7) x_u
   replace z_l := z_l.put (b' := (ngB M)) (A' := Ax7) (n' := nx7) (c' := cx7) x_u
   replace z_u := z_u.put (b' := (ngB M)) (A' := Ax7) (n' := nx7) (c' := cx7) x_u
   replace hb := put_below (g := g6) hb (by omega) (.bool (ngB M)) (.slice Ax7 nx7 cx7)
   replace x_u := x_u.put (ngB M) Ax7 nx7 cx7
   clear q_a0 f_a0 q_a1 f_a1 q_a2 f_a2 q_a3 f_a3 q_a4 f_a4 q_k0 f_k0 q_k1 f_k1 q_r0 f_r0 q_r1 f_r1 q_r2 f_r2 q_r3 f_r3 q_r4 f_r4 q_l0 f_l0 q_l1 f_l1 q_u0 f_u0 q_u1 f_u1
   generalize (v10.setCell ⟨g6, 0, none⟩ (.bool (ngB M))).setCell ⟨g6, 1, none⟩ (.slice Ax7 nx7 cx7) = v11 at *
   obtain ⟨q_a0, f_a0, q_a1, f_a1, q_a2, f_a2, q_a3, f_a3, q_a4, f_a4⟩ := x_a.al
   obtain ⟨q_k0, f_k0, q_k1, f_k1⟩ := x_k.al
   obtain ⟨q_r0, f_r0, q_r1, f_r1, q_r2, f_r2, q_r3, f_r3, q_r4, f_r4⟩ := x_r.al
   obtain ⟨q_l0, f_l0, q_l1, f_l1⟩ := x_l.al
   obtain ⟨q_u0, f_u0, q_u1, f_u1⟩ := x_u.al
   replace x_a := x_a.asideL (b' := (ngB N)) (A' := Ay7) (n' := ny7) (c' := cy7) (p' := (ngB M)) (B' := Ax7) (m' := nx7) (d' := cx7) (e' := q) (g := w.heap.size + 1 + 1) (by omega)
   replace x_k := x_k.asideL (b' := (ngB N)) (A' := Ay7) (n' := ny7) (c' := cy7) (p' := (ngB M)) (B' := Ax7) (m' := nx7) (d' := cx7) (e' := q) (g := w.heap.size + 1 + 1) (by omega)
   replace x_l := x_l.asideL (b' := (ngB N)) (A' := Ay7) (n' := ny7) (c' := cy7) (p' := (ngB M)) (B' := Ax7) (m' := nx7) (d' := cx7) (e' := q) (g := w.heap.size + 1 + 1) (by omega)
   replace x_u := x_u.asideL (b' := (ngB N)) (A' := Ay7) (n' := ny7) (c' := cy7) (p' := (ngB M)) (B' := Ax7) (m' := nx7) (d' := cx7) (e' := q) (g := w.heap.size + 1 + 1) (by omega)
   replace h := h.putL (b' := (ngB N)) (A' := Ay7) (n' := ny7) (c' := cy7) (p' := (ngB M)) (B' := Ax7) (m' := nx7) (d' := cx7) (e' := q) x_r
   replace h2 := h2.putL (b' := (ngB N)) (A' := Ay7) (n' := ny7) (c' := cy7) (p' := (ngB M)) (B' := Ax7) (m' := nx7) (d' := cx7) (e' := q) x_r
   replace h3 := h3.putL (b' := (ngB N)) (A' := Ay7) (n' := ny7) (c' := cy7) (p' := (ngB M)) (B' := Ax7) (m' := nx7) (d' := cx7) (e' := q) x_r
   replace z_l := z_l.putL (b' := (ngB N)) (A' := Ay7) (n' := ny7) (c' := cy7) (p' := (ngB M)) (B' := Ax7) (m' := nx7) (d' := cx7) (e' := q) x_r
   replace z_u := z_u.putL (b' := (ngB N)) (A' := Ay7) (n' := ny7) (c' := cy7) (p' := (ngB M)) (B' := Ax7) (m' := nx7) (d' := cx7) (e' := q) x_r
   replace hb := put_belowL (g := w.heap.size + 1 + 1) hb (by omega) (.bool (ngB N)) (.slice Ay7 ny7 cy7) (.bool (ngB M)) (.slice Ax7 nx7 cx7) (.int .i64 q)
   replace x_r := x_r.put (ngB N) Ay7 ny7 cy7 (ngB M) Ax7 nx7 cx7 q
   clear q_a0 f_a0 q_a1 f_a1 q_a2 f_a2 q_a3 f_a3 q_a4 f_a4 q_k0 f_k0 q_k1 f_k1 q_r0 f_r0 q_r1 f_r1 q_r2 f_r2 q_r3 f_r3 q_r4 f_r4 q_l0 f_l0 q_l1 f_l1 q_u0 f_u0 q_u1 f_u1
   generalize ((((v11.setCell ⟨w.heap.size + 1 + 1, 0, none⟩ (.bool (ngB N))).setCell ⟨w.heap.size + 1 + 1, 1, none⟩ (.slice Ay7 ny7 cy7)).setCell ⟨w.heap.size + 1 + 1, 2, none⟩ (.bool (ngB M))).setCell ⟨w.heap.size + 1 + 1, 3, none⟩ (.slice Ax7 nx7 cx7)).setCell ⟨w.heap.size + 1 + 1, 4, none⟩ (.int .i64 q) = v12 at *
   obtain ⟨q_a0, f_a0, q_a1, f_a1, q_a2, f_a2, q_a3, f_a3, q_a4, f_a4⟩ := x_a.al
   obtain ⟨q_k0, f_k0, q_k1, f_k1⟩ := x_k.al
   obtain ⟨q_r0, f_r0, q_r1, f_r1, q_r2, f_r2, q_r3, f_r3, q_r4, f_r4⟩ := x_r.al
   obtain ⟨q_l0, f_l0, q_l1, f_l1⟩ := x_l.al
   obtain ⟨q_u0, f_u0, q_u1, f_u1⟩ := x_u.al
   skip
   refine bodyPost_ret (v := .tuple #[.agg #[.bool (ngB N), .slice Ay7 ny7 cy7, .bool (ngB M), .slice Ax7 nx7 cx7, .int .i64 q], .int .i64 0]) (by simp [results, Tryz.results62, go_sem, q_r0, q_r1, q_r2, q_r3, q_r4]) rfl ?_
   exact ⟨_, _, _, _, _, _, rfl, z_u, z_l, hb⟩
 ·obtain ⟨e1, e2⟩ := tm_pos hv.2.2 hK
  rw [e1, e2]
  clear e1 e2 hv hK
  obtain ⟨M, hM⟩ : ∃ M, X * K = M := ⟨_, rfl⟩
  obtain ⟨N, hN⟩ : ∃ N, Y * K = N := ⟨_, rfl⟩
  rw [hM, hN]
  have HM := Lib.hid hM; have HN := Lib.hid hN; clear hM hN
  go_enter Tryz.func62, Tryz.ntmps62
  go_wp2_with fail
  have x_a : Lx (w.alloc (.cells #[.bool b, .slice A n c, .bool b2, .slice A2 n2 c2, .int .i64 q] 27)) (w.heap.size) b A n c b2 A2 n2 c2 q := by have := Lx.new w b A n c b2 A2 n2 c2 q; simpa using this
  replace x_a := x_a.alloc (.cells #[.bool b3, .slice A3 n3 c3] 25)
  have x_k : Bx ((w.alloc (.cells #[.bool b, .slice A n c, .bool b2, .slice A2 n2 c2, .int .i64 q] 27)).alloc (.cells #[.bool b3, .slice A3 n3 c3] 25)) (w.heap.size + 1) b3 A3 n3 c3 := by have := Bx.new (w.alloc (.cells #[.bool b, .slice A n c, .bool b2, .slice A2 n2 c2, .int .i64 q] 27)) b3 A3 n3 c3; simpa using this
  replace x_a := x_a.alloc (.cells #[.bool false, .slice none 0 0, .bool false, .slice none 0 0, .int .i64 0] 27)
  replace x_k := x_k.alloc (.cells #[.bool false, .slice none 0 0, .bool false, .slice none 0 0, .int .i64 0] 27)
  have x_r : Lx (((w.alloc (.cells #[.bool b, .slice A n c, .bool b2, .slice A2 n2 c2, .int .i64 q] 27)).alloc (.cells #[.bool b3, .slice A3 n3 c3] 25)).alloc (.cells #[.bool false, .slice none 0 0, .bool false, .slice none 0 0, .int .i64 0] 27)) (w.heap.size + 1 + 1) false none 0 0 false none 0 0 0 := by have := Lx.new ((w.alloc (.cells #[.bool b, .slice A n c, .bool b2, .slice A2 n2 c2, .int .i64 q] 27)).alloc (.cells #[.bool b3, .slice A3 n3 c3] 25)) false none 0 0 false none 0 0 0; simpa using this
  have hb : Below w.heap.size w (((w.alloc (.cells #[.bool b, .slice A n c, .bool b2, .slice A2 n2 c2, .int .i64 q] 27)).alloc (.cells #[.bool b3, .slice A3 n3 c3] 25)).alloc (.cells #[.bool false, .slice none 0 0, .bool false, .slice none 0 0, .int .i64 0] 27)) := (Below.alloc (Below.alloc (Below.alloc (Below.refl w.heap.size w) (by simp) (.cells #[.bool b, .slice A n c, .bool b2, .slice A2 n2 c2, .int .i64 q] 27)) (by simp) (.cells #[.bool b3, .slice A3 n3 c3] 25)) (by simp; omega) (.cells #[.bool false, .slice none 0 0, .bool false, .slice none 0 0, .int .i64 0] 27))
  generalize ((w.alloc (.cells #[.bool b, .slice A n c, .bool b2, .slice A2 n2 c2, .int .i64 q] 27)).alloc (.cells #[.bool b3, .slice A3 n3 c3] 25)).alloc (.cells #[.bool false, .slice none 0 0, .bool false, .slice none 0 0, .int .i64 0] 27) = v1 at *
  obtain ⟨h, h2, h3⟩ := mv3 hb h h2 h3
  obtain ⟨q_a0, f_a0, q_a1, f_a1, q_a2, f_a2, q_a3, f_a3, q_a4, f_a4⟩ := x_a.al
  obtain ⟨q_k0, f_k0, q_k1, f_k1⟩ := x_k.al
  obtain ⟨q_r0, f_r0, q_r1, f_r1, q_r2, f_r2, q_r3, f_r3, q_r4, f_r4⟩ := x_r.al
  go_wp2_with fail
  with_reducible refine (Right_any h h2 (by omega) (by omega)).mono ?_
  rintro e v2 ⟨rfl, hb1⟩
  obtain ⟨x_a, x_k, x_r, h, h2, h3⟩ := mv6 hb1 x_a x_k x_r h h2 h3
  replace hb := bthen hb hb1
  clear hb1
  clear q_a0 f_a0 q_a1 f_a1 q_a2 f_a2 q_a3 f_a3 q_a4 f_a4; obtain ⟨q_a0, f_a0, q_a1, f_a1, q_a2, f_a2, q_a3, f_a3, q_a4, f_a4⟩ := x_a.al
  clear q_k0 f_k0 q_k1 f_k1; obtain ⟨q_k0, f_k0, q_k1, f_k1⟩ := x_k.al
  clear q_r0 f_r0 q_r1 f_r1 q_r2 f_r2 q_r3 f_r3 q_r4 f_r4; obtain ⟨q_r0, f_r0, q_r1, f_r1, q_r2, f_r2, q_r3, f_r3, q_r4, f_r4⟩ := x_r.al
  rw [HR.out]
  go_upto_region 3 with fail
  have hv := Below.refl v2.heap.size v2
  have l_a_l := x_a.lt
  have l_k_l := x_k.lt
  have l_r_l := x_r.lt
  go_cut [6, 7] (fun s9 t9 wx => BnNew2 v2 M N 60 60 s9 t9 wx)
  case first =>
   go_region_held3 (fun w' => w'.cell? ⟨w.heap.size, 0, none⟩ = some (.bool b) ∧ w'.cell? ⟨w.heap.size, 1, none⟩ = some (.slice A n c) ∧ w'.cell? ⟨w.heap.size, 2, none⟩ = some (.bool b2) ∧ w'.cell? ⟨w.heap.size, 3, none⟩ = some (.slice A2 n2 c2) ∧ w'.cell? ⟨w.heap.size, 4, none⟩ = some (.int .i64 q) ∧ w'.cell? ⟨w.heap.size + 1, 0, none⟩ = some (.bool b3) ∧ w'.cell? ⟨w.heap.size + 1, 1, none⟩ = some (.slice A3 n3 c3))
    (first | (with_reducible exact ⟨x_a.c0, x_a.c1, x_a.c2, x_a.c3, x_a.c4, x_k.c0, x_k.c1⟩) | (with_reducible exact ⟨(x_a.alloc _).c0, (x_a.alloc _).c1, (x_a.alloc _).c2, (x_a.alloc _).c3, (x_a.alloc _).c4, (x_k.alloc _).c0, (x_k.alloc _).c1⟩) | (with_reducible exact ⟨((x_a.alloc _).alloc _).c0, ((x_a.alloc _).alloc _).c1, ((x_a.alloc _).alloc _).c2, ((x_a.alloc _).alloc _).c3, ((x_a.alloc _).alloc _).c4, ((x_k.alloc _).alloc _).c0, ((x_k.alloc _).alloc _).c1⟩) | (with_reducible exact ⟨(x_a.aside (by omega)).c0, (x_a.aside (by omega)).c1, (x_a.aside (by omega)).c2, (x_a.aside (by omega)).c3, (x_a.aside (by omega)).c4, (x_k.aside (by omega)).c0, (x_k.aside (by omega)).c1⟩) | (with_reducible exact ⟨((x_a.alloc _).aside (by omega)).c0, ((x_a.alloc _).aside (by omega)).c1, ((x_a.alloc _).aside (by omega)).c2, ((x_a.alloc _).aside (by omega)).c3, ((x_a.alloc _).aside (by omega)).c4, ((x_k.alloc _).aside (by omega)).c0, ((x_k.alloc _).aside (by omega)).c1⟩) | (with_reducible exact ⟨((x_a.aside (by omega)).alloc _).c0, ((x_a.aside (by omega)).alloc _).c1, ((x_a.aside (by omega)).alloc _).c2, ((x_a.aside (by omega)).alloc _).c3, ((x_a.aside (by omega)).alloc _).c4, ((x_k.aside (by omega)).alloc _).c0, ((x_k.aside (by omega)).alloc _).c1⟩) | (with_reducible exact ⟨(((x_a.alloc _).alloc _).aside (by omega)).c0, (((x_a.alloc _).alloc _).aside (by omega)).c1, (((x_a.alloc _).alloc _).aside (by omega)).c2, (((x_a.alloc _).alloc _).aside (by omega)).c3, (((x_a.alloc _).alloc _).aside (by omega)).c4, (((x_k.alloc _).alloc _).aside (by omega)).c0, (((x_k.alloc _).alloc _).aside (by omega)).c1⟩) | (with_reducible exact ⟨((x_a.aside (by omega)).aside (by omega)).c0, ((x_a.aside (by omega)).aside (by omega)).c1, ((x_a.aside (by omega)).aside (by omega)).c2, ((x_a.aside (by omega)).aside (by omega)).c3, ((x_a.aside (by omega)).aside (by omega)).c4, ((x_k.aside (by omega)).aside (by omega)).c0, ((x_k.aside (by omega)).aside (by omega)).c1⟩) | (with_reducible exact ⟨(((x_a.alloc _).aside (by omega)).aside (by omega)).c0, (((x_a.alloc _).aside (by omega)).aside (by omega)).c1, (((x_a.alloc _).aside (by omega)).aside (by omega)).c2, (((x_a.alloc _).aside (by omega)).aside (by omega)).c3, (((x_a.alloc _).aside (by omega)).aside (by omega)).c4, (((x_k.alloc _).aside (by omega)).aside (by omega)).c0, (((x_k.alloc _).aside (by omega)).aside (by omega)).c1⟩) | (with_reducible exact ⟨((((x_a.alloc _).alloc _).aside (by omega)).aside (by omega)).c0, ((((x_a.alloc _).alloc _).aside (by omega)).aside (by omega)).c1, ((((x_a.alloc _).alloc _).aside (by omega)).aside (by omega)).c2, ((((x_a.alloc _).alloc _).aside (by omega)).aside (by omega)).c3, ((((x_a.alloc _).alloc _).aside (by omega)).aside (by omega)).c4, ((((x_k.alloc _).alloc _).aside (by omega)).aside (by omega)).c0, ((((x_k.alloc _).alloc _).aside (by omega)).aside (by omega)).c1⟩) | go_keep)
    (first | (go_at_call 96; (with_reducible refine (ZMul_any h.drw h3.drw 60 (by omega) (by omega)).mono ?_); rintro e v3 ⟨A5, n5, c5, rfl, z5, hb1⟩; replace hb1 := undrew hb1; (try replace x_n1 := x_n1.keep hb1); (try replace x_n2 := x_n2.keep hb1); replace hv := bthen hv hb1; have hvs_v3 := hv.size; obtain ⟨x_a, x_k, x_r, h, h2, h3⟩ := mv6 hb1 x_a x_k x_r h h2 h3; replace hb := bthen hb hb1; clear hb1; clear q_a0 f_a0 q_a1 f_a1 q_a2 f_a2 q_a3 f_a3 q_a4 f_a4; obtain ⟨q_a0, f_a0, q_a1, f_a1, q_a2, f_a2, q_a3, f_a3, q_a4, f_a4⟩ := x_a.al; clear q_k0 f_k0 q_k1 f_k1; obtain ⟨q_k0, f_k0, q_k1, f_k1⟩ := x_k.al; clear q_r0 f_r0 q_r1 f_r1 q_r2 f_r2 q_r3 f_r3 q_r4 f_r4; obtain ⟨q_r0, f_r0, q_r1, f_r1, q_r2, f_r2, q_r3, f_r3, q_r4, f_r4⟩ := x_r.al; rw [HM.out] at z5 ⊢; (try (obtain ⟨q_n10, f_n10, q_n11, f_n11⟩ := x_n1.al; have lt_n1 := x_n1.lt; have y_n1 := x_n1.alloc (.cells #[.bool false, .slice none 0 0] 25); have qy_n10 := y_n1.c0; have fy_n10 := y_n1.fr 0; have qy_n11 := y_n1.c1; have fy_n11 := y_n1.fr 1)); (try (obtain ⟨q_n20, f_n20, q_n21, f_n21⟩ := x_n2.al; have lt_n2 := x_n2.lt; have y_n2 := x_n2.alloc (.cells #[.bool false, .slice none 0 0] 25); have qy_n20 := y_n2.c0; have fy_n20 := y_n2.fr 0; have qy_n21 := y_n2.c1; have fy_n21 := y_n2.fr 1))) | (go_at_call 96; (with_reducible refine (ZMul_any (h.keep (below_alloc v2 (.cells #[.bool false, .slice none 0 0] 25))).drw (h3.keep (below_alloc v2 (.cells #[.bool false, .slice none 0 0] 25))).drw 60 (by omega) (by omega)).mono ?_); rintro e v3 ⟨A5, n5, c5, rfl, z5, hb1⟩; replace hb1 := undrew hb1; (first | (have lt_n := x_n1.lt; replace x_n1 := x_n1.keep (bthen (below_alloc v2 (.cells #[.bool false, .slice none 0 0] 25)) hb1); have x_n2 := (Bx.new v2 false none 0 0).keep hb1) | (have x_n1 := (Bx.new v2 false none 0 0).keep hb1)); replace hb1 := bthen (below_alloc v2 (.cells #[.bool false, .slice none 0 0] 25)) hb1; replace hv := bthen hv hb1; have hvs_v3 := hv.size; obtain ⟨x_a, x_k, x_r, h, h2, h3⟩ := mv6 hb1 x_a x_k x_r h h2 h3; replace hb := bthen hb hb1; clear hb1; clear q_a0 f_a0 q_a1 f_a1 q_a2 f_a2 q_a3 f_a3 q_a4 f_a4; obtain ⟨q_a0, f_a0, q_a1, f_a1, q_a2, f_a2, q_a3, f_a3, q_a4, f_a4⟩ := x_a.al; clear q_k0 f_k0 q_k1 f_k1; obtain ⟨q_k0, f_k0, q_k1, f_k1⟩ := x_k.al; clear q_r0 f_r0 q_r1 f_r1 q_r2 f_r2 q_r3 f_r3 q_r4 f_r4; obtain ⟨q_r0, f_r0, q_r1, f_r1, q_r2, f_r2, q_r3, f_r3, q_r4, f_r4⟩ := x_r.al; rw [HM.out] at z5 ⊢; (try (obtain ⟨q_n10, f_n10, q_n11, f_n11⟩ := x_n1.al; have lt_n1 := x_n1.lt; have y_n1 := x_n1.alloc (.cells #[.bool false, .slice none 0 0] 25); have qy_n10 := y_n1.c0; have fy_n10 := y_n1.fr 0; have qy_n11 := y_n1.c1; have fy_n11 := y_n1.fr 1)); (try (obtain ⟨q_n20, f_n20, q_n21, f_n21⟩ := x_n2.al; have lt_n2 := x_n2.lt; have y_n2 := x_n2.alloc (.cells #[.bool false, .slice none 0 0] 25); have qy_n20 := y_n2.c0; have fy_n20 := y_n2.fr 0; have qy_n21 := y_n2.c1; have fy_n21 := y_n2.fr 1))) | (go_at_call 96; (with_reducible refine (ZMul_any (h.keep (below_alloc2 v2 (.cells #[.bool false, .slice none 0 0] 25) (.cells #[.bool false, .slice none 0 0] 25))).drw (h3.keep (below_alloc2 v2 (.cells #[.bool false, .slice none 0 0] 25) (.cells #[.bool false, .slice none 0 0] 25))).drw 60 (by omega) (by omega)).mono ?_); rintro e v3 ⟨A5, n5, c5, rfl, z5, hb1⟩; replace hb1 := undrew hb1; have x_n1 := ((Bx.new v2 false none 0 0).alloc (.cells #[.bool false, .slice none 0 0] 25)).keep hb1; have x_n2 := (Bx.at_size (alloc_size v2 (.cells #[.bool false, .slice none 0 0] 25)) : Bx ((v2.alloc (.cells #[.bool false, .slice none 0 0] 25)).alloc (.cells #[.bool false, .slice none 0 0] 25)) (v2.heap.size + 1) false none 0 0).keep hb1; replace hb1 := bthen (below_alloc2 v2 (.cells #[.bool false, .slice none 0 0] 25) (.cells #[.bool false, .slice none 0 0] 25)) hb1; replace hv := bthen hv hb1; have hvs_v3 := hv.size; obtain ⟨x_a, x_k, x_r, h, h2, h3⟩ := mv6 hb1 x_a x_k x_r h h2 h3; replace hb := bthen hb hb1; clear hb1; clear q_a0 f_a0 q_a1 f_a1 q_a2 f_a2 q_a3 f_a3 q_a4 f_a4; obtain ⟨q_a0, f_a0, q_a1, f_a1, q_a2, f_a2, q_a3, f_a3, q_a4, f_a4⟩ := x_a.al; clear q_k0 f_k0 q_k1 f_k1; obtain ⟨q_k0, f_k0, q_k1, f_k1⟩ := x_k.al; clear q_r0 f_r0 q_r1 f_r1 q_r2 f_r2 q_r3 f_r3 q_r4 f_r4; obtain ⟨q_r0, f_r0, q_r1, f_r1, q_r2, f_r2, q_r3, f_r3, q_r4, f_r4⟩ := x_r.al; rw [HM.out] at z5 ⊢; (try (obtain ⟨q_n10, f_n10, q_n11, f_n11⟩ := x_n1.al; have lt_n1 := x_n1.lt; have y_n1 := x_n1.alloc (.cells #[.bool false, .slice none 0 0] 25); have qy_n10 := y_n1.c0; have fy_n10 := y_n1.fr 0; have qy_n11 := y_n1.c1; have fy_n11 := y_n1.fr 1)); (try (obtain ⟨q_n20, f_n20, q_n21, f_n21⟩ := x_n2.al; have lt_n2 := x_n2.lt; have y_n2 := x_n2.alloc (.cells #[.bool false, .slice none 0 0] 25); have qy_n20 := y_n2.c0; have fy_n20 := y_n2.fr 0; have qy_n21 := y_n2.c1; have fy_n21 := y_n2.fr 1))) | (go_at_call 96; (with_reducible refine (ZMul_any h2 h3 60 (by omega) (by omega)).mono ?_); rintro e v4 ⟨A6, n6, c6, rfl, z6, hb1⟩; (try replace x_n1 := x_n1.keep hb1); (try replace x_n2 := x_n2.keep hb1); replace hv := bthen hv hb1; have hvs_v4 := hv.size; obtain ⟨x_a, x_k, x_r, h, h2, h3, z5⟩ := mv7 hb1 x_a x_k x_r h h2 h3 z5; replace hb := bthen hb hb1; clear hb1; clear q_a0 f_a0 q_a1 f_a1 q_a2 f_a2 q_a3 f_a3 q_a4 f_a4; obtain ⟨q_a0, f_a0, q_a1, f_a1, q_a2, f_a2, q_a3, f_a3, q_a4, f_a4⟩ := x_a.al; clear q_k0 f_k0 q_k1 f_k1; obtain ⟨q_k0, f_k0, q_k1, f_k1⟩ := x_k.al; clear q_r0 f_r0 q_r1 f_r1 q_r2 f_r2 q_r3 f_r3 q_r4 f_r4; obtain ⟨q_r0, f_r0, q_r1, f_r1, q_r2, f_r2, q_r3, f_r3, q_r4, f_r4⟩ := x_r.al; rw [HN.out] at z6 ⊢; (try (obtain ⟨q_n10, f_n10, q_n11, f_n11⟩ := x_n1.al; have lt_n1 := x_n1.lt; have y_n1 := x_n1.alloc (.cells #[.bool false, .slice none 0 0] 25); have qy_n10 := y_n1.c0; have fy_n10 := y_n1.fr 0; have qy_n11 := y_n1.c1; have fy_n11 := y_n1.fr 1)); (try (obtain ⟨q_n20, f_n20, q_n21, f_n21⟩ := x_n2.al; have lt_n2 := x_n2.lt; have y_n2 := x_n2.alloc (.cells #[.bool false, .slice none 0 0] 25); have qy_n20 := y_n2.c0; have fy_n20 := y_n2.fr 0; have qy_n21 := y_n2.c1; have fy_n21 := y_n2.fr 1))) | (go_at_call 96; (with_reducible refine (ZMul_any (h2.keep (below_alloc v3 (.cells #[.bool false, .slice none 0 0] 25))) (h3.keep (below_alloc v3 (.cells #[.bool false, .slice none 0 0] 25))) 60 (by omega) (by omega)).mono ?_); rintro e v4 ⟨A6, n6, c6, rfl, z6, hb1⟩; (first | (have lt_n := x_n1.lt; replace x_n1 := x_n1.keep (bthen (below_alloc v3 (.cells #[.bool false, .slice none 0 0] 25)) hb1); have x_n2 := (Bx.new v3 false none 0 0).keep hb1) | (have x_n1 := (Bx.new v3 false none 0 0).keep hb1)); replace hb1 := bthen (below_alloc v3 (.cells #[.bool false, .slice none 0 0] 25)) hb1; replace hv := bthen hv hb1; have hvs_v4 := hv.size; obtain ⟨x_a, x_k, x_r, h, h2, h3, z5⟩ := mv7 hb1 x_a x_k x_r h h2 h3 z5; replace hb := bthen hb hb1; clear hb1; clear q_a0 f_a0 q_a1 f_a1 q_a2 f_a2 q_a3 f_a3 q_a4 f_a4; obtain ⟨q_a0, f_a0, q_a1, f_a1, q_a2, f_a2, q_a3, f_a3, q_a4, f_a4⟩ := x_a.al; clear q_k0 f_k0 q_k1 f_k1; obtain ⟨q_k0, f_k0, q_k1, f_k1⟩ := x_k.al; clear q_r0 f_r0 q_r1 f_r1 q_r2 f_r2 q_r3 f_r3 q_r4 f_r4; obtain ⟨q_r0, f_r0, q_r1, f_r1, q_r2, f_r2, q_r3, f_r3, q_r4, f_r4⟩ := x_r.al; rw [HN.out] at z6 ⊢; (try (obtain ⟨q_n10, f_n10, q_n11, f_n11⟩ := x_n1.al; have lt_n1 := x_n1.lt; have y_n1 := x_n1.alloc (.cells #[.bool false, .slice none 0 0] 25); have qy_n10 := y_n1.c0; have fy_n10 := y_n1.fr 0; have qy_n11 := y_n1.c1; have fy_n11 := y_n1.fr 1)); (try (obtain ⟨q_n20, f_n20, q_n21, f_n21⟩ := x_n2.al; have lt_n2 := x_n2.lt; have y_n2 := x_n2.alloc (.cells #[.bool false, .slice none 0 0] 25); have qy_n20 := y_n2.c0; have fy_n20 := y_n2.fr 0; have qy_n21 := y_n2.c1; have fy_n21 := y_n2.fr 1))) | (go_at_call 96; (with_reducible refine (ZMul_any (h2.keep (below_alloc2 v3 (.cells #[.bool false, .slice none 0 0] 25) (.cells #[.bool false, .slice none 0 0] 25))) (h3.keep (below_alloc2 v3 (.cells #[.bool false, .slice none 0 0] 25) (.cells #[.bool false, .slice none 0 0] 25))) 60 (by omega) (by omega)).mono ?_); rintro e v4 ⟨A6, n6, c6, rfl, z6, hb1⟩; have x_n1 := ((Bx.new v3 false none 0 0).alloc (.cells #[.bool false, .slice none 0 0] 25)).keep hb1; have x_n2 := (Bx.at_size (alloc_size v3 (.cells #[.bool false, .slice none 0 0] 25)) : Bx ((v3.alloc (.cells #[.bool false, .slice none 0 0] 25)).alloc (.cells #[.bool false, .slice none 0 0] 25)) (v3.heap.size + 1) false none 0 0).keep hb1; replace hb1 := bthen (below_alloc2 v3 (.cells #[.bool false, .slice none 0 0] 25) (.cells #[.bool false, .slice none 0 0] 25)) hb1; replace hv := bthen hv hb1; have hvs_v4 := hv.size; obtain ⟨x_a, x_k, x_r, h, h2, h3, z5⟩ := mv7 hb1 x_a x_k x_r h h2 h3 z5; replace hb := bthen hb hb1; clear hb1; clear q_a0 f_a0 q_a1 f_a1 q_a2 f_a2 q_a3 f_a3 q_a4 f_a4; obtain ⟨q_a0, f_a0, q_a1, f_a1, q_a2, f_a2, q_a3, f_a3, q_a4, f_a4⟩ := x_a.al; clear q_k0 f_k0 q_k1 f_k1; obtain ⟨q_k0, f_k0, q_k1, f_k1⟩ := x_k.al; clear q_r0 f_r0 q_r1 f_r1 q_r2 f_r2 q_r3 f_r3 q_r4 f_r4; obtain ⟨q_r0, f_r0, q_r1, f_r1, q_r2, f_r2, q_r3, f_r3, q_r4, f_r4⟩ := x_r.al; rw [HN.out] at z6 ⊢; (try (obtain ⟨q_n10, f_n10, q_n11, f_n11⟩ := x_n1.al; have lt_n1 := x_n1.lt; have y_n1 := x_n1.alloc (.cells #[.bool false, .slice none 0 0] 25); have qy_n10 := y_n1.c0; have fy_n10 := y_n1.fr 0; have qy_n11 := y_n1.c1; have fy_n11 := y_n1.fr 1)); (try (obtain ⟨q_n20, f_n20, q_n21, f_n21⟩ := x_n2.al; have lt_n2 := x_n2.lt; have y_n2 := x_n2.alloc (.cells #[.bool false, .slice none 0 0] 25); have qy_n20 := y_n2.c0; have fy_n20 := y_n2.fr 0; have qy_n21 := y_n2.c1; have fy_n21 := y_n2.fr 1))))
   all_goals go_wp2_with fail
   all_goals go_meet
   all_goals first | (with_reducible exact BnNew2.ll hv z5 z6) | (with_reducible exact BnNew2.mm hv z5 z6) | (with_reducible exact BnNew2.el hv x_n1 (by omega) z5 z6) | (with_reducible exact BnNew2.le hv x_n1 (by omega) z5 z6) | (with_reducible exact BnNew2.gl hv x_n1 (by omega) z5 z6) | (with_reducible exact BnNew2.lg hv x_n1 (by omega) z5 z6) | (with_reducible exact BnNew2.el hv x_n2 (by omega) z5 z6) | (with_reducible exact BnNew2.le hv x_n2 (by omega) z5 z6) | (with_reducible exact BnNew2.gl hv x_n2 (by omega) z5 z6) | (with_reducible exact BnNew2.lg hv x_n2 (by omega) z5 z6) | (with_reducible exact BnNew2.ee hv x_n1 (by omega) x_n2 (by omega) (by omega) z5 z6) | (with_reducible exact BnNew2.ff hv x_n1 (by omega) x_n2 (by omega) (by omega) z5 z6) | (with_reducible exact BnNew2.ee hv x_n2 (by omega) x_n1 (by omega) (by omega) z5 z6) | (with_reducible exact BnNew2.ff hv x_n2 (by omega) x_n1 (by omega) (by omega) z5 z6)
  case rest =>
   obtain ⟨g5, g6, Ax7, nx7, cx7, Ay7, ny7, cy7, rfl, rfl, ne_l, x_l, x_u, z_l, z_u, e_l, e_u, hb1⟩ := hcut
   clear hv
   obtain ⟨x_a, x_k, x_r, h, h2, h3⟩ := mv6 hb1 x_a x_k x_r h h2 h3
   replace hb := bthen hb hb1
   clear hb1
   clear q_a0 f_a0 q_a1 f_a1 q_a2 f_a2 q_a3 f_a3 q_a4 f_a4; obtain ⟨q_a0, f_a0, q_a1, f_a1, q_a2, f_a2, q_a3, f_a3, q_a4, f_a4⟩ := x_a.al
   clear q_k0 f_k0 q_k1 f_k1; obtain ⟨q_k0, f_k0, q_k1, f_k1⟩ := x_k.al
   clear q_r0 f_r0 q_r1 f_r1 q_r2 f_r2 q_r3 f_r3 q_r4 f_r4; obtain ⟨q_r0, f_r0, q_r1, f_r1, q_r2, f_r2, q_r3, f_r3, q_r4, f_r4⟩ := x_r.al
   clear q_a0 f_a0 q_a1 f_a1 q_a2 f_a2 q_a3 f_a3 q_a4 f_a4 q_k0 f_k0 q_k1 f_k1 q_r0 f_r0 q_r1 f_r1 q_r2 f_r2 q_r3 f_r3 q_r4 f_r4
   generalize wc = v8 at *
   obtain ⟨q_a0, f_a0, q_a1, f_a1, q_a2, f_a2, q_a3, f_a3, q_a4, f_a4⟩ := x_a.al
   obtain ⟨q_k0, f_k0, q_k1, f_k1⟩ := x_k.al
   obtain ⟨q_r0, f_r0, q_r1, f_r1, q_r2, f_r2, q_r3, f_r3, q_r4, f_r4⟩ := x_r.al
   obtain ⟨q_l0, f_l0, q_l1, f_l1⟩ := x_l.al
   obtain ⟨q_u0, f_u0, q_u1, f_u1⟩ := x_u.al
   go_wp2_with fail
   with_reducible refine (ZSign_any h3 (by omega)).mono ?_
   rintro e v9 ⟨rfl, hb1⟩
   obtain ⟨x_a, x_k, x_r, x_l, x_u, h, h2, h3, z_l⟩ := mv9 hb1 x_a x_k x_r x_l x_u h h2 h3 z_l
   replace z_u := z_u.keep hb1
   replace hb := bthen hb hb1
   clear hb1
   clear q_a0 f_a0 q_a1 f_a1 q_a2 f_a2 q_a3 f_a3 q_a4 f_a4; obtain ⟨q_a0, f_a0, q_a1, f_a1, q_a2, f_a2, q_a3, f_a3, q_a4, f_a4⟩ := x_a.al
   clear q_k0 f_k0 q_k1 f_k1; obtain ⟨q_k0, f_k0, q_k1, f_k1⟩ := x_k.al
   clear q_r0 f_r0 q_r1 f_r1 q_r2 f_r2 q_r3 f_r3 q_r4 f_r4; obtain ⟨q_r0, f_r0, q_r1, f_r1, q_r2, f_r2, q_r3, f_r3, q_r4, f_r4⟩ := x_r.al
   clear q_l0 f_l0 q_l1 f_l1; obtain ⟨q_l0, f_l0, q_l1, f_l1⟩ := x_l.al
   clear q_u0 f_u0 q_u1 f_u1; obtain ⟨q_u0, f_u0, q_u1, f_u1⟩ := x_u.al
   rw [HC.out]
   go_wp2
   replace x_a := x_a.asideL (b' := (ngB M)) (A' := Ax7) (n' := nx7) (c' := cx7) (p' := (ngB N)) (B' := Ay7) (m' := ny7) (d' := cy7) (e' := q) (g := w.heap.size + 1 + 1) (by omega)
   replace x_k := x_k.asideL (b' := (ngB M)) (A' := Ax7) (n' := nx7) (c' := cx7) (p' := (ngB N)) (B' := Ay7) (m' := ny7) (d' := cy7) (e' := q) (g := w.heap.size + 1 + 1) (by omega)
   replace x_l := x_l.asideL (b' := (ngB M)) (A' := Ax7) (n' := nx7) (c' := cx7) (p' := (ngB N)) (B' := Ay7) (m' := ny7) (d' := cy7) (e' := q) (g := w.heap.size + 1 + 1) (by omega)
   replace x_u := x_u.asideL (b' := (ngB M)) (A' := Ax7) (n' := nx7) (c' := cx7) (p' := (ngB N)) (B' := Ay7) (m' := ny7) (d' := cy7) (e' := q) (g := w.heap.size + 1 + 1) (by omega)
   replace h := h.putL (b' := (ngB M)) (A' := Ax7) (n' := nx7) (c' := cx7) (p' := (ngB N)) (B' := Ay7) (m' := ny7) (d' := cy7) (e' := q) x_r
   replace h2 := h2.putL (b' := (ngB M)) (A' := Ax7) (n' := nx7) (c' := cx7) (p' := (ngB N)) (B' := Ay7) (m' := ny7) (d' := cy7) (e' := q) x_r
   replace h3 := h3.putL (b' := (ngB M)) (A' := Ax7) (n' := nx7) (c' := cx7) (p' := (ngB N)) (B' := Ay7) (m' := ny7) (d' := cy7) (e' := q) x_r
   replace z_l := z_l.putL (b' := (ngB M)) (A' := Ax7) (n' := nx7) (c' := cx7) (p' := (ngB N)) (B' := Ay7) (m' := ny7) (d' := cy7) (e' := q) x_r
   replace z_u := z_u.putL (b' := (ngB M)) (A' := Ax7) (n' := nx7) (c' := cx7) (p' := (ngB N)) (B' := Ay7) (m' := ny7) (d' := cy7) (e' := q) x_r
   replace hb := put_belowL (g := w.heap.size + 1 + 1) hb (by omega) (.bool (ngB M)) (.slice Ax7 nx7 cx7) (.bool (ngB N)) (.slice Ay7 ny7 cy7) (.int .i64 q)
   replace x_r := x_r.put (ngB M) Ax7 nx7 cx7 (ngB N) Ay7 ny7 cy7 q
   clear q_a0 f_a0 q_a1 f_a1 q_a2 f_a2 q_a3 f_a3 q_a4 f_a4 q_k0 f_k0 q_k1 f_k1 q_r0 f_r0 q_r1 f_r1 q_r2 f_r2 q_r3 f_r3 q_r4 f_r4 q_l0 f_l0 q_l1 f_l1 q_u0 f_u0 q_u1 f_u1
   generalize ((((v9.setCell ⟨w.heap.size + 1 + 1, 0, none⟩ (.bool (ngB M))).setCell ⟨w.heap.size + 1 + 1, 1, none⟩ (.slice Ax7 nx7 cx7)).setCell ⟨w.heap.size + 1 + 1, 2, none⟩ (.bool (ngB N))).setCell ⟨w.heap.size + 1 + 1, 3, none⟩ (.slice Ay7 ny7 cy7)).setCell ⟨w.heap.size + 1 + 1, 4, none⟩ (.int .i64 q) = v10 at *
   obtain ⟨q_a0, f_a0, q_a1, f_a1, q_a2, f_a2, q_a3, f_a3, q_a4, f_a4⟩ := x_a.al
   obtain ⟨q_k0, f_k0, q_k1, f_k1⟩ := x_k.al
   obtain ⟨q_r0, f_r0, q_r1, f_r1, q_r2, f_r2, q_r3, f_r3, q_r4, f_r4⟩ := x_r.al
   obtain ⟨q_l0, f_l0, q_l1, f_l1⟩ := x_l.al
   obtain ⟨q_u0, f_u0, q_u1, f_u1⟩ := x_u.al
   skip
   refine bodyPost_ret (v := .tuple #[.agg #[.bool (ngB M), .slice Ax7 nx7 cx7, .bool (ngB N), .slice Ay7 ny7 cy7, .int .i64 q], .int .i64 0]) (by simp [results, Tryz.results62, go_sem, q_r0, q_r1, q_r2, q_r3, q_r4]) rfl ?_
   exact ⟨_, _, _, _, _, _, rfl, z_l, z_u, hb⟩

end Go.Proofs.YtiikmjnnlckiiaaGreat
