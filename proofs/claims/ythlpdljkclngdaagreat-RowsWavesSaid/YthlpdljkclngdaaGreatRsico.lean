/-
  the document's answers for rows: Sin, Cos.
-/
import Derived.Test.YthlpdljkclngdaaGreatRwave
namespace Go.Proofs.YthlpdljkclngdaaGreat
open Go.RowKit
set_option linter.unusedVariables false

theorem Bx.at_size {w : World} {N : Nat} {b : Bool} {A : Option Addr} {n c : Nat} (h : w.heap.size = N) : Bx (w.alloc (.cells #[.bool b, .slice A n c] 24)) N b A n c := by subst h; exact Bx.new w b A n c
theorem put_size (w : World) (g : Nat) (b : Bool) (A : Option Addr) (n c : Nat) : ((w.setCell ⟨g, 0, none⟩ (.bool b)).setCell ⟨g, 1, none⟩ (.slice A n c)).heap.size = w.heap.size := by simp [World.setCell]
theorem alloc_size (w : World) (o : Obj) : (w.alloc o).heap.size = w.heap.size + 1 := by simp
/-- Two new boxes of integers in normal form, in a world that is otherwise as it was. -/
def BnNew2 (v : World) (X Y : Int) (k k2 : Nat) (s t : Value) (wx : World) : Prop :=
  ∃ g h A n c A2 n2 c2, s = .pointer (some ⟨g, 0, none⟩) ∧ t = .pointer (some ⟨h, 0, none⟩) ∧ g ≠ h ∧ Bx wx g (ngB X) A n c ∧ Bx wx h (ngB Y) A2 n2 c2 ∧ Zn wx A n c X k ∧ Zn wx A2 n2 c2 Y k2 ∧ v.heap.size ≤ g ∧ v.heap.size ≤ h ∧ Below v.heap.size v wx
section
variable {v wx : World} {X Y : Int} {k k2 g h n c n2 c2 m d m2 d2 : Nat} {p p2 : Bool} {A A2 B B2 : Option Addr}
theorem BnNew2.ee (hv : Below v.heap.size v wx) (x6 : Bx wx g p B m d) (hg : v.heap.size ≤ g) (x7 : Bx wx h p2 B2 m2 d2) (hh : v.heap.size ≤ h) (hne : g ≠ h) (z : Zn wx A n c X k) (z2 : Zn wx A2 n2 c2 Y k2) : BnNew2 v X Y k k2 (.pointer (some ⟨g, 0, none⟩)) (.pointer (some ⟨h, 0, none⟩)) ((((wx.setCell ⟨g, 0, none⟩ (.bool (ngB X))).setCell ⟨g, 1, none⟩ (.slice A n c)).setCell ⟨h, 0, none⟩ (.bool (ngB Y))).setCell ⟨h, 1, none⟩ (.slice A2 n2 c2)) :=
  ⟨g, h, _, _, _, _, _, _, rfl, rfl, hne, (x6.put _ _ _ _).aside hne, (x7.aside (Ne.symm hne)).put _ _ _ _, (z.put x6).put (x7.aside (Ne.symm hne)), (z2.put x6).put (x7.aside (Ne.symm hne)), hg, hh, put_below (put_below hv hg _ _) hh _ _⟩
theorem BnNew2.ff (hv : Below v.heap.size v wx) (x6 : Bx wx g p B m d) (hg : v.heap.size ≤ g) (x7 : Bx wx h p2 B2 m2 d2) (hh : v.heap.size ≤ h) (hne : g ≠ h) (z : Zn wx A n c X k) (z2 : Zn wx A2 n2 c2 Y k2) : BnNew2 v X Y k k2 (.pointer (some ⟨g, 0, none⟩)) (.pointer (some ⟨h, 0, none⟩)) ((((wx.setCell ⟨h, 0, none⟩ (.bool (ngB Y))).setCell ⟨h, 1, none⟩ (.slice A2 n2 c2)).setCell ⟨g, 0, none⟩ (.bool (ngB X))).setCell ⟨g, 1, none⟩ (.slice A n c)) :=
  ⟨g, h, _, _, _, _, _, _, rfl, rfl, hne, (x6.aside hne).put _ _ _ _, (x7.put _ _ _ _).aside (Ne.symm hne), (z.put x7).put (x6.aside hne), (z2.put x7).put (x6.aside hne), hg, hh, put_below (put_below hv hh _ _) hg _ _⟩
theorem BnNew2.el (hv : Below v.heap.size v wx) (x6 : Bx wx g p B m d) (hg : v.heap.size ≤ g) (z : Zn wx A n c X k) (z2 : Zn wx A2 n2 c2 Y k2) : BnNew2 v X Y k k2 (.pointer (some ⟨g, 0, none⟩)) (.pointer (some ⟨wx.heap.size, 0, none⟩)) (((wx.setCell ⟨g, 0, none⟩ (.bool (ngB X))).setCell ⟨g, 1, none⟩ (.slice A n c)).alloc (.cells #[.bool (ngB Y), .slice A2 n2 c2] 24)) :=
  ⟨g, wx.heap.size, _, _, _, _, _, _, rfl, rfl, Nat.ne_of_lt x6.lt, (x6.put _ _ _ _).alloc _, Bx.at_size (put_size _ _ _ _ _ _), (z.put x6).keep (below_alloc _ _), (z2.put x6).keep (below_alloc _ _), hg, hv.size, bthen (put_below hv hg _ _) (below_alloc _ _)⟩
theorem BnNew2.le (hv : Below v.heap.size v wx) (x6 : Bx wx g p B m d) (hg : v.heap.size ≤ g) (z : Zn wx A n c X k) (z2 : Zn wx A2 n2 c2 Y k2) : BnNew2 v X Y k k2 (.pointer (some ⟨g, 0, none⟩)) (.pointer (some ⟨wx.heap.size, 0, none⟩)) (((wx.alloc (.cells #[.bool (ngB Y), .slice A2 n2 c2] 24)).setCell ⟨g, 0, none⟩ (.bool (ngB X))).setCell ⟨g, 1, none⟩ (.slice A n c)) :=
  ⟨g, wx.heap.size, _, _, _, _, _, _, rfl, rfl, Nat.ne_of_lt x6.lt, (x6.alloc _).put _ _ _ _, (Bx.new _ _ _ _ _).aside (Ne.symm (Nat.ne_of_lt x6.lt)), (z.keep (below_alloc _ _)).put (x6.alloc _), (z2.keep (below_alloc _ _)).put (x6.alloc _), hg, hv.size, put_below (bthen hv (below_alloc _ _)) hg _ _⟩
theorem BnNew2.gl (hv : Below v.heap.size v wx) (x7 : Bx wx h p2 B2 m2 d2) (hh : v.heap.size ≤ h) (z : Zn wx A n c X k) (z2 : Zn wx A2 n2 c2 Y k2) : BnNew2 v X Y k k2 (.pointer (some ⟨wx.heap.size, 0, none⟩)) (.pointer (some ⟨h, 0, none⟩)) (((wx.setCell ⟨h, 0, none⟩ (.bool (ngB Y))).setCell ⟨h, 1, none⟩ (.slice A2 n2 c2)).alloc (.cells #[.bool (ngB X), .slice A n c] 24)) :=
  ⟨wx.heap.size, h, _, _, _, _, _, _, rfl, rfl, Ne.symm (Nat.ne_of_lt x7.lt), Bx.at_size (put_size _ _ _ _ _ _), (x7.put _ _ _ _).alloc _, (z.put x7).keep (below_alloc _ _), (z2.put x7).keep (below_alloc _ _), hv.size, hh, bthen (put_below hv hh _ _) (below_alloc _ _)⟩
theorem BnNew2.lg (hv : Below v.heap.size v wx) (x7 : Bx wx h p2 B2 m2 d2) (hh : v.heap.size ≤ h) (z : Zn wx A n c X k) (z2 : Zn wx A2 n2 c2 Y k2) : BnNew2 v X Y k k2 (.pointer (some ⟨wx.heap.size, 0, none⟩)) (.pointer (some ⟨h, 0, none⟩)) (((wx.alloc (.cells #[.bool (ngB X), .slice A n c] 24)).setCell ⟨h, 0, none⟩ (.bool (ngB Y))).setCell ⟨h, 1, none⟩ (.slice A2 n2 c2)) :=
  ⟨wx.heap.size, h, _, _, _, _, _, _, rfl, rfl, Ne.symm (Nat.ne_of_lt x7.lt), (Bx.new _ _ _ _ _).aside (Ne.symm (Nat.ne_of_lt x7.lt)), (x7.alloc _).put _ _ _ _, (z.keep (below_alloc _ _)).put (x7.alloc _), (z2.keep (below_alloc _ _)).put (x7.alloc _), hv.size, hh, put_below (bthen hv (below_alloc _ _)) hh _ _⟩
theorem BnNew2.ll (hv : Below v.heap.size v wx) (z : Zn wx A n c X k) (z2 : Zn wx A2 n2 c2 Y k2) : BnNew2 v X Y k k2 (.pointer (some ⟨wx.heap.size, 0, none⟩)) (.pointer (some ⟨wx.heap.size + 1, 0, none⟩)) ((wx.alloc (.cells #[.bool (ngB X), .slice A n c] 24)).alloc (.cells #[.bool (ngB Y), .slice A2 n2 c2] 24)) :=
  ⟨wx.heap.size, wx.heap.size + 1, _, _, _, _, _, _, rfl, rfl, by omega, (Bx.new _ _ _ _ _).alloc _, Bx.at_size (alloc_size _ _), z.keep (below_alloc2 _ _ _), z2.keep (below_alloc2 _ _ _), hv.size, Nat.le_succ_of_le hv.size, bthen hv (below_alloc2 _ _ _)⟩
theorem BnNew2.mm (hv : Below v.heap.size v wx) (z : Zn wx A n c X k) (z2 : Zn wx A2 n2 c2 Y k2) : BnNew2 v X Y k k2 (.pointer (some ⟨wx.heap.size + 1, 0, none⟩)) (.pointer (some ⟨wx.heap.size, 0, none⟩)) ((wx.alloc (.cells #[.bool (ngB Y), .slice A2 n2 c2] 24)).alloc (.cells #[.bool (ngB X), .slice A n c] 24)) :=
  ⟨wx.heap.size + 1, wx.heap.size, _, _, _, _, _, _, rfl, rfl, by omega, Bx.at_size (alloc_size _ _), (Bx.new _ _ _ _ _).alloc _, z.keep (below_alloc2 _ _ _), z2.keep (below_alloc2 _ _ _), Nat.le_succ_of_le hv.size, hv.size, bthen hv (below_alloc2 _ _ _)⟩
end
set_option maxRecDepth 100000 in
set_option maxHeartbeats 16000000 in
theorem RSin_yes {b : Bool} {A : Option Addr} {n c : Nat} {X : Int} {j : Nat} {w : World} (h : Zr w b A n c X j) (Q M : Nat) (hQ : Q ≤ 1200) (hM : 1 ≤ M ∧ M ≤ 400) (hX : 0 ≤ X ∧ X ≤ 2 * twP Q) (hj : j ≤ 20) :
    Calls Tryz.prog 17 #[.agg #[.bool b, .slice A n c], .int .i64 (Q : Nat), .int .i64 (M : Nat)] w (Ou2 w (rwLo 3 X Q M) (rwHi 3 X Q M) 0 25) := by
  have hp := tw_pos Q
  have hmy : mayB X Q M 2 0 = true := may_yes (d := 2) (e := 0) hQ hM hX.1 (by rw [sc_zero]; omega)
  have HMY := Lib.hid hmy
  have HX := Lib.hid hX
  have HT : Hid (1 * (2 : Int) ^ sc (Q : Int) = twP Q) := Lib.hid (by rw [tw_sc hQ]; omega)
  have BT : Hid (Si (twP Q) 20) := Lib.hid (si1 hQ (by omega) (by omega))
  obtain ⟨L0, hL0⟩ : ∃ e, rwLo 3 X Q M = e := ⟨_, rfl⟩
  obtain ⟨H0, hH0⟩ : ∃ e, rwHi 3 X Q M = e := ⟨_, rfl⟩
  rw [hL0, hH0]
  have HL := Lib.hid hL0; have HH := Lib.hid hH0; clear hL0 hH0 hmy hX hp
  go_enter Tryz.func17, Tryz.ntmps17
  go_upto_region 1 with fail
  have x_a : Bx (w.alloc (.cells #[.bool b, .slice A n c] 24)) (w.heap.size) b A n c := by have := Bx.new w b A n c; simpa using this
  replace x_a := x_a.alloc (.cells #[.bool false, .slice none 0 0] 24)
  have x_r : Bx ((w.alloc (.cells #[.bool b, .slice A n c] 24)).alloc (.cells #[.bool false, .slice none 0 0] 24)) (w.heap.size + 1) false none 0 0 := by have := Bx.new (w.alloc (.cells #[.bool b, .slice A n c] 24)) false none 0 0; simpa using this
  replace x_a := x_a.alloc (.cells #[.bool false, .slice none 0 0] 24)
  replace x_r := x_r.alloc (.cells #[.bool false, .slice none 0 0] 24)
  have x_p : Bx (((w.alloc (.cells #[.bool b, .slice A n c] 24)).alloc (.cells #[.bool false, .slice none 0 0] 24)).alloc (.cells #[.bool false, .slice none 0 0] 24)) (w.heap.size + 1 + 1) false none 0 0 := by have := Bx.new ((w.alloc (.cells #[.bool b, .slice A n c] 24)).alloc (.cells #[.bool false, .slice none 0 0] 24)) false none 0 0; simpa using this
  have hb : Below w.heap.size w (((w.alloc (.cells #[.bool b, .slice A n c] 24)).alloc (.cells #[.bool false, .slice none 0 0] 24)).alloc (.cells #[.bool false, .slice none 0 0] 24)) := (Below.alloc (Below.alloc (Below.alloc (Below.refl w.heap.size w) (by simp) (.cells #[.bool b, .slice A n c] 24)) (by simp) (.cells #[.bool false, .slice none 0 0] 24)) (by simp; omega) (.cells #[.bool false, .slice none 0 0] 24))
  generalize ((w.alloc (.cells #[.bool b, .slice A n c] 24)).alloc (.cells #[.bool false, .slice none 0 0] 24)).alloc (.cells #[.bool false, .slice none 0 0] 24) = v1 at *
  replace h := h.keep hb
  obtain ⟨q_a0, f_a0, q_a1, f_a1⟩ := x_a.al
  obtain ⟨q_r0, f_r0, q_r1, f_r1⟩ := x_r.al
  obtain ⟨q_p0, f_p0, q_p1, f_p1⟩ := x_p.al
  go_wp2_with fail
  with_reducible refine (Rmay_any h Q M 2 0 (by omega) (by omega)).mono ?_
  rintro e v2 ⟨rfl, hb1⟩
  replace x_a := x_a.keep hb1
  replace x_r := x_r.keep hb1
  replace x_p := x_p.keep hb1
  replace h := h.keep hb1
  replace hb := bthen hb hb1
  clear hb1
  clear q_a0 f_a0 q_a1 f_a1; obtain ⟨q_a0, f_a0, q_a1, f_a1⟩ := x_a.al
  clear q_r0 f_r0 q_r1 f_r1; obtain ⟨q_r0, f_r0, q_r1, f_r1⟩ := x_r.al
  clear q_p0 f_p0 q_p1 f_p1; obtain ⟨q_p0, f_p0, q_p1, f_p1⟩ := x_p.al
  rw [HMY.out]
  clear q_r0 f_r0 q_r1 f_r1
  clear q_p0 f_p0 q_p1 f_p1
  go_upto_region 4 with fail
  have hv := Below.refl v2.heap.size v2
  have l_a_c := x_a.lt
  have l_r_c := x_r.lt
  have l_p_c := x_p.lt
  go_cut [10, 11] (fun s9 t9 wx => BnNew2 v2 L0 H0 20 20 s9 t9 wx)
  case first =>
    go_region_held3 (fun w' => w'.cell? ⟨w.heap.size, 0, none⟩ = some (.bool b) ∧ w'.cell? ⟨w.heap.size, 1, none⟩ = some (.slice A n c))
      (first | (with_reducible exact ⟨x_a.c0, x_a.c1⟩) | (with_reducible exact ⟨(x_a.alloc _).c0, (x_a.alloc _).c1⟩) | (with_reducible exact ⟨((x_a.alloc _).alloc _).c0, ((x_a.alloc _).alloc _).c1⟩) | (with_reducible exact ⟨(x_a.aside (by omega)).c0, (x_a.aside (by omega)).c1⟩) | (with_reducible exact ⟨((x_a.alloc _).aside (by omega)).c0, ((x_a.alloc _).aside (by omega)).c1⟩) | (with_reducible exact ⟨((x_a.aside (by omega)).alloc _).c0, ((x_a.aside (by omega)).alloc _).c1⟩) | (with_reducible exact ⟨(((x_a.alloc _).alloc _).aside (by omega)).c0, (((x_a.alloc _).alloc _).aside (by omega)).c1⟩) | (with_reducible exact ⟨((x_a.aside (by omega)).aside (by omega)).c0, ((x_a.aside (by omega)).aside (by omega)).c1⟩) | (with_reducible exact ⟨(((x_a.alloc _).aside (by omega)).aside (by omega)).c0, (((x_a.alloc _).aside (by omega)).aside (by omega)).c1⟩) | (with_reducible exact ⟨((((x_a.alloc _).alloc _).aside (by omega)).aside (by omega)).c0, ((((x_a.alloc _).alloc _).aside (by omega)).aside (by omega)).c1⟩) | go_keep)
      (first | (go_at_call 38; (with_reducible refine (RNormZ_any h.drw 20 (by omega) (by omega)).mono ?_); rintro e v3 ⟨A8, n8, c8, rfl, z8, hb1⟩; replace hb1 := undrew hb1; (try replace x_n1 := x_n1.keep hb1); (try replace x_n2 := x_n2.keep hb1); replace hv := bthen hv hb1; have hvs_v3 := hv.size; replace x_a := x_a.keep hb1; replace x_r := x_r.keep hb1; replace x_p := x_p.keep hb1; replace h := h.keep hb1; replace hb := bthen hb hb1; clear hb1; clear q_a0 f_a0 q_a1 f_a1; obtain ⟨q_a0, f_a0, q_a1, f_a1⟩ := x_a.al; (try (have q_n10 := x_n1.c0; have f_n10 := x_n1.fr 0; have q_n11 := x_n1.c1; have f_n11 := x_n1.fr 1; have lt_n1 := x_n1.lt; have y_n1 := x_n1.alloc (.cells #[.bool false, .slice none 0 0] 24); have qy_n10 := y_n1.c0; have fy_n10 := y_n1.fr 0; have qy_n11 := y_n1.c1; have fy_n11 := y_n1.fr 1)); (try (have q_n20 := x_n2.c0; have f_n20 := x_n2.fr 0; have q_n21 := x_n2.c1; have f_n21 := x_n2.fr 1; have lt_n2 := x_n2.lt; have y_n2 := x_n2.alloc (.cells #[.bool false, .slice none 0 0] 24); have qy_n20 := y_n2.c0; have fy_n20 := y_n2.fr 0; have qy_n21 := y_n2.c1; have fy_n21 := y_n2.fr 1))) | (go_at_call 38; (with_reducible refine (RNormZ_any (h.keep (below_alloc v2 (.cells #[.bool false, .slice none 0 0] 24))).drw 20 (by omega) (by omega)).mono ?_); rintro e v3 ⟨A8, n8, c8, rfl, z8, hb1⟩; replace hb1 := undrew hb1; (first | (have lt_n := x_n1.lt; replace x_n1 := x_n1.keep (bthen (below_alloc v2 (.cells #[.bool false, .slice none 0 0] 24)) hb1); have x_n2 := (Bx.new v2 false none 0 0).keep hb1) | (have x_n1 := (Bx.new v2 false none 0 0).keep hb1)); replace hb1 := bthen (below_alloc v2 (.cells #[.bool false, .slice none 0 0] 24)) hb1; replace hv := bthen hv hb1; have hvs_v3 := hv.size; replace x_a := x_a.keep hb1; replace x_r := x_r.keep hb1; replace x_p := x_p.keep hb1; replace h := h.keep hb1; replace hb := bthen hb hb1; clear hb1; clear q_a0 f_a0 q_a1 f_a1; obtain ⟨q_a0, f_a0, q_a1, f_a1⟩ := x_a.al; (try (have q_n10 := x_n1.c0; have f_n10 := x_n1.fr 0; have q_n11 := x_n1.c1; have f_n11 := x_n1.fr 1; have lt_n1 := x_n1.lt; have y_n1 := x_n1.alloc (.cells #[.bool false, .slice none 0 0] 24); have qy_n10 := y_n1.c0; have fy_n10 := y_n1.fr 0; have qy_n11 := y_n1.c1; have fy_n11 := y_n1.fr 1)); (try (have q_n20 := x_n2.c0; have f_n20 := x_n2.fr 0; have q_n21 := x_n2.c1; have f_n21 := x_n2.fr 1; have lt_n2 := x_n2.lt; have y_n2 := x_n2.alloc (.cells #[.bool false, .slice none 0 0] 24); have qy_n20 := y_n2.c0; have fy_n20 := y_n2.fr 0; have qy_n21 := y_n2.c1; have fy_n21 := y_n2.fr 1))) | (go_at_call 38; (with_reducible refine (RNormZ_any (h.keep (below_alloc2 v2 (.cells #[.bool false, .slice none 0 0] 24) (.cells #[.bool false, .slice none 0 0] 24))).drw 20 (by omega) (by omega)).mono ?_); rintro e v3 ⟨A8, n8, c8, rfl, z8, hb1⟩; replace hb1 := undrew hb1; have x_n1 := ((Bx.new v2 false none 0 0).alloc (.cells #[.bool false, .slice none 0 0] 24)).keep hb1; have x_n2 := (Bx.at_size (alloc_size v2 (.cells #[.bool false, .slice none 0 0] 24)) : Bx ((v2.alloc (.cells #[.bool false, .slice none 0 0] 24)).alloc (.cells #[.bool false, .slice none 0 0] 24)) (v2.heap.size + 1) false none 0 0).keep hb1; replace hb1 := bthen (below_alloc2 v2 (.cells #[.bool false, .slice none 0 0] 24) (.cells #[.bool false, .slice none 0 0] 24)) hb1; replace hv := bthen hv hb1; have hvs_v3 := hv.size; replace x_a := x_a.keep hb1; replace x_r := x_r.keep hb1; replace x_p := x_p.keep hb1; replace h := h.keep hb1; replace hb := bthen hb hb1; clear hb1; clear q_a0 f_a0 q_a1 f_a1; obtain ⟨q_a0, f_a0, q_a1, f_a1⟩ := x_a.al; (try (have q_n10 := x_n1.c0; have f_n10 := x_n1.fr 0; have q_n11 := x_n1.c1; have f_n11 := x_n1.fr 1; have lt_n1 := x_n1.lt; have y_n1 := x_n1.alloc (.cells #[.bool false, .slice none 0 0] 24); have qy_n10 := y_n1.c0; have fy_n10 := y_n1.fr 0; have qy_n11 := y_n1.c1; have fy_n11 := y_n1.fr 1)); (try (have q_n20 := x_n2.c0; have f_n20 := x_n2.fr 0; have q_n21 := x_n2.c1; have f_n21 := x_n2.fr 1; have lt_n2 := x_n2.lt; have y_n2 := x_n2.alloc (.cells #[.bool false, .slice none 0 0] 24); have qy_n20 := y_n2.c0; have fy_n20 := y_n2.fr 0; have qy_n21 := y_n2.c1; have fy_n21 := y_n2.fr 1))) | (go_at_call 43; (with_reducible refine (Rwave_sn h Q M z8 hQ hM HX.out hj).mono ?_); rintro e v4 ⟨A5, n5, c5, A6, n6, c6, rfl, z5, z6, hb1⟩; (try replace x_n1 := x_n1.keep hb1); (try replace x_n2 := x_n2.keep hb1); replace hv := bthen hv hb1; have hvs_v4 := hv.size; replace x_a := x_a.keep hb1; replace x_r := x_r.keep hb1; replace x_p := x_p.keep hb1; replace h := h.keep hb1; replace z8 := z8.keep hb1; replace hb := bthen hb hb1; clear hb1; clear q_a0 f_a0 q_a1 f_a1; obtain ⟨q_a0, f_a0, q_a1, f_a1⟩ := x_a.al; rw [HL.out] at z5 ⊢; rw [HH.out] at z6 ⊢; (try (have q_n10 := x_n1.c0; have f_n10 := x_n1.fr 0; have q_n11 := x_n1.c1; have f_n11 := x_n1.fr 1; have lt_n1 := x_n1.lt; have y_n1 := x_n1.alloc (.cells #[.bool false, .slice none 0 0] 24); have qy_n10 := y_n1.c0; have fy_n10 := y_n1.fr 0; have qy_n11 := y_n1.c1; have fy_n11 := y_n1.fr 1)); (try (have q_n20 := x_n2.c0; have f_n20 := x_n2.fr 0; have q_n21 := x_n2.c1; have f_n21 := x_n2.fr 1; have lt_n2 := x_n2.lt; have y_n2 := x_n2.alloc (.cells #[.bool false, .slice none 0 0] 24); have qy_n20 := y_n2.c0; have fy_n20 := y_n2.fr 0; have qy_n21 := y_n2.c1; have fy_n21 := y_n2.fr 1))) | (go_at_call 43; (with_reducible refine (Rwave_sn (h.keep (below_alloc v3 (.cells #[.bool false, .slice none 0 0] 24))) Q M (z8.keep (below_alloc v3 (.cells #[.bool false, .slice none 0 0] 24))) hQ hM HX.out hj).mono ?_); rintro e v4 ⟨A5, n5, c5, A6, n6, c6, rfl, z5, z6, hb1⟩; (first | (have lt_n := x_n1.lt; replace x_n1 := x_n1.keep (bthen (below_alloc v3 (.cells #[.bool false, .slice none 0 0] 24)) hb1); have x_n2 := (Bx.new v3 false none 0 0).keep hb1) | (have x_n1 := (Bx.new v3 false none 0 0).keep hb1)); replace hb1 := bthen (below_alloc v3 (.cells #[.bool false, .slice none 0 0] 24)) hb1; replace hv := bthen hv hb1; have hvs_v4 := hv.size; replace x_a := x_a.keep hb1; replace x_r := x_r.keep hb1; replace x_p := x_p.keep hb1; replace h := h.keep hb1; replace z8 := z8.keep hb1; replace hb := bthen hb hb1; clear hb1; clear q_a0 f_a0 q_a1 f_a1; obtain ⟨q_a0, f_a0, q_a1, f_a1⟩ := x_a.al; rw [HL.out] at z5 ⊢; rw [HH.out] at z6 ⊢; (try (have q_n10 := x_n1.c0; have f_n10 := x_n1.fr 0; have q_n11 := x_n1.c1; have f_n11 := x_n1.fr 1; have lt_n1 := x_n1.lt; have y_n1 := x_n1.alloc (.cells #[.bool false, .slice none 0 0] 24); have qy_n10 := y_n1.c0; have fy_n10 := y_n1.fr 0; have qy_n11 := y_n1.c1; have fy_n11 := y_n1.fr 1)); (try (have q_n20 := x_n2.c0; have f_n20 := x_n2.fr 0; have q_n21 := x_n2.c1; have f_n21 := x_n2.fr 1; have lt_n2 := x_n2.lt; have y_n2 := x_n2.alloc (.cells #[.bool false, .slice none 0 0] 24); have qy_n20 := y_n2.c0; have fy_n20 := y_n2.fr 0; have qy_n21 := y_n2.c1; have fy_n21 := y_n2.fr 1))) | (go_at_call 43; (with_reducible refine (Rwave_sn (h.keep (below_alloc2 v3 (.cells #[.bool false, .slice none 0 0] 24) (.cells #[.bool false, .slice none 0 0] 24))) Q M (z8.keep (below_alloc2 v3 (.cells #[.bool false, .slice none 0 0] 24) (.cells #[.bool false, .slice none 0 0] 24))) hQ hM HX.out hj).mono ?_); rintro e v4 ⟨A5, n5, c5, A6, n6, c6, rfl, z5, z6, hb1⟩; have x_n1 := ((Bx.new v3 false none 0 0).alloc (.cells #[.bool false, .slice none 0 0] 24)).keep hb1; have x_n2 := (Bx.at_size (alloc_size v3 (.cells #[.bool false, .slice none 0 0] 24)) : Bx ((v3.alloc (.cells #[.bool false, .slice none 0 0] 24)).alloc (.cells #[.bool false, .slice none 0 0] 24)) (v3.heap.size + 1) false none 0 0).keep hb1; replace hb1 := bthen (below_alloc2 v3 (.cells #[.bool false, .slice none 0 0] 24) (.cells #[.bool false, .slice none 0 0] 24)) hb1; replace hv := bthen hv hb1; have hvs_v4 := hv.size; replace x_a := x_a.keep hb1; replace x_r := x_r.keep hb1; replace x_p := x_p.keep hb1; replace h := h.keep hb1; replace z8 := z8.keep hb1; replace hb := bthen hb hb1; clear hb1; clear q_a0 f_a0 q_a1 f_a1; obtain ⟨q_a0, f_a0, q_a1, f_a1⟩ := x_a.al; rw [HL.out] at z5 ⊢; rw [HH.out] at z6 ⊢; (try (have q_n10 := x_n1.c0; have f_n10 := x_n1.fr 0; have q_n11 := x_n1.c1; have f_n11 := x_n1.fr 1; have lt_n1 := x_n1.lt; have y_n1 := x_n1.alloc (.cells #[.bool false, .slice none 0 0] 24); have qy_n10 := y_n1.c0; have fy_n10 := y_n1.fr 0; have qy_n11 := y_n1.c1; have fy_n11 := y_n1.fr 1)); (try (have q_n20 := x_n2.c0; have f_n20 := x_n2.fr 0; have q_n21 := x_n2.c1; have f_n21 := x_n2.fr 1; have lt_n2 := x_n2.lt; have y_n2 := x_n2.alloc (.cells #[.bool false, .slice none 0 0] 24); have qy_n20 := y_n2.c0; have fy_n20 := y_n2.fr 0; have qy_n21 := y_n2.c1; have fy_n21 := y_n2.fr 1))))
    all_goals go_wp2_with fail
    all_goals go_meet
    all_goals first | (with_reducible exact BnNew2.ll hv z5 z6) | (with_reducible exact BnNew2.mm hv z5 z6) | (with_reducible exact BnNew2.el hv x_n1 (by omega) z5 z6) | (with_reducible exact BnNew2.le hv x_n1 (by omega) z5 z6) | (with_reducible exact BnNew2.gl hv x_n1 (by omega) z5 z6) | (with_reducible exact BnNew2.lg hv x_n1 (by omega) z5 z6) | (with_reducible exact BnNew2.el hv x_n2 (by omega) z5 z6) | (with_reducible exact BnNew2.le hv x_n2 (by omega) z5 z6) | (with_reducible exact BnNew2.gl hv x_n2 (by omega) z5 z6) | (with_reducible exact BnNew2.lg hv x_n2 (by omega) z5 z6) | (with_reducible exact BnNew2.ee hv x_n1 (by omega) x_n2 (by omega) (by omega) z5 z6) | (with_reducible exact BnNew2.ff hv x_n1 (by omega) x_n2 (by omega) (by omega) z5 z6) | (with_reducible exact BnNew2.ee hv x_n2 (by omega) x_n1 (by omega) (by omega) z5 z6) | (with_reducible exact BnNew2.ff hv x_n2 (by omega) x_n1 (by omega) (by omega) z5 z6)
  case rest =>
    obtain ⟨g5, g6, Ax7, nx7, cx7, Ay7, ny7, cy7, rfl, rfl, ne_c, x_c, x_d, z_c, z_d, e_c, e_d, hb1⟩ := hcut
    clear hv
    replace x_a := x_a.keep hb1
    replace x_r := x_r.keep hb1
    replace x_p := x_p.keep hb1
    replace h := h.keep hb1
    replace hb := bthen hb hb1
    clear hb1
    clear q_a0 f_a0 q_a1 f_a1; obtain ⟨q_a0, f_a0, q_a1, f_a1⟩ := x_a.al
    clear q_a0 f_a0 q_a1 f_a1
    generalize wc = v8 at *
    obtain ⟨q_a0, f_a0, q_a1, f_a1⟩ := x_a.al
    obtain ⟨q_c0, f_c0, q_c1, f_c1⟩ := x_c.al
    obtain ⟨q_d0, f_d0, q_d1, f_d1⟩ := x_d.al
    obtain ⟨q_r0, f_r0, q_r1, f_r1⟩ := x_r.al
    obtain ⟨q_p0, f_p0, q_p1, f_p1⟩ := x_p.al
    go_upto_region 5 with fail
    go_region
    all_goals
      replace x_a := x_a.aside (b' := (ngB L0)) (A' := Ax7) (n' := nx7) (c' := cx7) (g := w.heap.size + 1) (by omega)
      replace x_p := x_p.aside (b' := (ngB L0)) (A' := Ax7) (n' := nx7) (c' := cx7) (g := w.heap.size + 1) (by omega)
      replace x_c := x_c.aside (b' := (ngB L0)) (A' := Ax7) (n' := nx7) (c' := cx7) (g := w.heap.size + 1) (by omega)
      replace x_d := x_d.aside (b' := (ngB L0)) (A' := Ax7) (n' := nx7) (c' := cx7) (g := w.heap.size + 1) (by omega)
      replace h := h.put (b' := (ngB L0)) (A' := Ax7) (n' := nx7) (c' := cx7) x_r
      replace z_c := z_c.put (b' := (ngB L0)) (A' := Ax7) (n' := nx7) (c' := cx7) x_r
      replace z_d := z_d.put (b' := (ngB L0)) (A' := Ax7) (n' := nx7) (c' := cx7) x_r
      replace hb := put_below (g := w.heap.size + 1) hb (by omega) (.bool (ngB L0)) (.slice Ax7 nx7 cx7)
      replace x_r := x_r.put (ngB L0) Ax7 nx7 cx7
      clear q_a0 f_a0 q_a1 f_a1 q_r0 f_r0 q_r1 f_r1 q_p0 f_p0 q_p1 f_p1 q_c0 f_c0 q_c1 f_c1 q_d0 f_d0 q_d1 f_d1
      generalize (v8.setCell ⟨w.heap.size + 1, 0, none⟩ (.bool (ngB L0))).setCell ⟨w.heap.size + 1, 1, none⟩ (.slice Ax7 nx7 cx7) = v9 at *
      obtain ⟨q_a0, f_a0, q_a1, f_a1⟩ := x_a.al
      obtain ⟨q_r0, f_r0, q_r1, f_r1⟩ := x_r.al
      obtain ⟨q_p0, f_p0, q_p1, f_p1⟩ := x_p.al
      obtain ⟨q_c0, f_c0, q_c1, f_c1⟩ := x_c.al
      obtain ⟨q_d0, f_d0, q_d1, f_d1⟩ := x_d.al
      replace x_a := x_a.aside (b' := (ngB H0)) (A' := Ay7) (n' := ny7) (c' := cy7) (g := w.heap.size + 1 + 1) (by omega)
      replace x_r := x_r.aside (b' := (ngB H0)) (A' := Ay7) (n' := ny7) (c' := cy7) (g := w.heap.size + 1 + 1) (by omega)
      replace x_c := x_c.aside (b' := (ngB H0)) (A' := Ay7) (n' := ny7) (c' := cy7) (g := w.heap.size + 1 + 1) (by omega)
      replace x_d := x_d.aside (b' := (ngB H0)) (A' := Ay7) (n' := ny7) (c' := cy7) (g := w.heap.size + 1 + 1) (by omega)
      replace h := h.put (b' := (ngB H0)) (A' := Ay7) (n' := ny7) (c' := cy7) x_p
      replace z_c := z_c.put (b' := (ngB H0)) (A' := Ay7) (n' := ny7) (c' := cy7) x_p
      replace z_d := z_d.put (b' := (ngB H0)) (A' := Ay7) (n' := ny7) (c' := cy7) x_p
      replace hb := put_below (g := w.heap.size + 1 + 1) hb (by omega) (.bool (ngB H0)) (.slice Ay7 ny7 cy7)
      replace x_p := x_p.put (ngB H0) Ay7 ny7 cy7
      clear q_a0 f_a0 q_a1 f_a1 q_r0 f_r0 q_r1 f_r1 q_p0 f_p0 q_p1 f_p1 q_c0 f_c0 q_c1 f_c1 q_d0 f_d0 q_d1 f_d1
      generalize (v9.setCell ⟨w.heap.size + 1 + 1, 0, none⟩ (.bool (ngB H0))).setCell ⟨w.heap.size + 1 + 1, 1, none⟩ (.slice Ay7 ny7 cy7) = v10 at *
      obtain ⟨q_a0, f_a0, q_a1, f_a1⟩ := x_a.al
      obtain ⟨q_r0, f_r0, q_r1, f_r1⟩ := x_r.al
      obtain ⟨q_p0, f_p0, q_p1, f_p1⟩ := x_p.al
      obtain ⟨q_c0, f_c0, q_c1, f_c1⟩ := x_c.al
      obtain ⟨q_d0, f_d0, q_d1, f_d1⟩ := x_d.al
      replace z_c := z_c.wide (show 20 ≤ 25 by omega)
      replace z_d := z_d.wide (show 20 ≤ 25 by omega)
      go_wp2
      refine bodyPost_ret (v := .tuple #[.agg #[.bool (ngB L0), .slice Ax7 nx7 cx7], .agg #[.bool (ngB H0), .slice Ay7 ny7 cy7], .int .i64 0]) (by simp [results, Tryz.results17, go_sem, q_r0, q_r1, q_p0, q_p1]) rfl ?_
      exact Ou2.mk rfl rfl z_c.drw z_d.drw (below_drew hb)

set_option maxRecDepth 100000 in
set_option maxHeartbeats 16000000 in
theorem RCos_yes {b : Bool} {A : Option Addr} {n c : Nat} {X : Int} {j : Nat} {w : World} (h : Zr w b A n c X j) (Q M : Nat) (hQ : Q ≤ 1200) (hM : 1 ≤ M ∧ M ≤ 400) (hX : 0 ≤ X ∧ X ≤ 2 * twP Q) (hj : j ≤ 20) :
    Calls Tryz.prog 19 #[.agg #[.bool b, .slice A n c], .int .i64 (Q : Nat), .int .i64 (M : Nat)] w (Ou2 w (rwLo 4 X Q M) (rwHi 4 X Q M) 0 25) := by
  have hp := tw_pos Q
  have hmy : mayB X Q M 2 0 = true := may_yes (d := 2) (e := 0) hQ hM hX.1 (by rw [sc_zero]; omega)
  have HMY := Lib.hid hmy
  have HX := Lib.hid hX
  have HT : Hid (1 * (2 : Int) ^ sc (Q : Int) = twP Q) := Lib.hid (by rw [tw_sc hQ]; omega)
  have BT : Hid (Si (twP Q) 20) := Lib.hid (si1 hQ (by omega) (by omega))
  obtain ⟨L0, hL0⟩ : ∃ e, rwLo 4 X Q M = e := ⟨_, rfl⟩
  obtain ⟨H0, hH0⟩ : ∃ e, rwHi 4 X Q M = e := ⟨_, rfl⟩
  rw [hL0, hH0]
  have HL := Lib.hid hL0; have HH := Lib.hid hH0; clear hL0 hH0 hmy hX hp
  go_enter Tryz.func19, Tryz.ntmps19
  go_upto_region 1 with fail
  have x_a : Bx (w.alloc (.cells #[.bool b, .slice A n c] 24)) (w.heap.size) b A n c := by have := Bx.new w b A n c; simpa using this
  replace x_a := x_a.alloc (.cells #[.bool false, .slice none 0 0] 24)
  have x_r : Bx ((w.alloc (.cells #[.bool b, .slice A n c] 24)).alloc (.cells #[.bool false, .slice none 0 0] 24)) (w.heap.size + 1) false none 0 0 := by have := Bx.new (w.alloc (.cells #[.bool b, .slice A n c] 24)) false none 0 0; simpa using this
  replace x_a := x_a.alloc (.cells #[.bool false, .slice none 0 0] 24)
  replace x_r := x_r.alloc (.cells #[.bool false, .slice none 0 0] 24)
  have x_p : Bx (((w.alloc (.cells #[.bool b, .slice A n c] 24)).alloc (.cells #[.bool false, .slice none 0 0] 24)).alloc (.cells #[.bool false, .slice none 0 0] 24)) (w.heap.size + 1 + 1) false none 0 0 := by have := Bx.new ((w.alloc (.cells #[.bool b, .slice A n c] 24)).alloc (.cells #[.bool false, .slice none 0 0] 24)) false none 0 0; simpa using this
  have hb : Below w.heap.size w (((w.alloc (.cells #[.bool b, .slice A n c] 24)).alloc (.cells #[.bool false, .slice none 0 0] 24)).alloc (.cells #[.bool false, .slice none 0 0] 24)) := (Below.alloc (Below.alloc (Below.alloc (Below.refl w.heap.size w) (by simp) (.cells #[.bool b, .slice A n c] 24)) (by simp) (.cells #[.bool false, .slice none 0 0] 24)) (by simp; omega) (.cells #[.bool false, .slice none 0 0] 24))
  generalize ((w.alloc (.cells #[.bool b, .slice A n c] 24)).alloc (.cells #[.bool false, .slice none 0 0] 24)).alloc (.cells #[.bool false, .slice none 0 0] 24) = v1 at *
  replace h := h.keep hb
  obtain ⟨q_a0, f_a0, q_a1, f_a1⟩ := x_a.al
  obtain ⟨q_r0, f_r0, q_r1, f_r1⟩ := x_r.al
  obtain ⟨q_p0, f_p0, q_p1, f_p1⟩ := x_p.al
  go_wp2_with fail
  with_reducible refine (Rmay_any h Q M 2 0 (by omega) (by omega)).mono ?_
  rintro e v2 ⟨rfl, hb1⟩
  replace x_a := x_a.keep hb1
  replace x_r := x_r.keep hb1
  replace x_p := x_p.keep hb1
  replace h := h.keep hb1
  replace hb := bthen hb hb1
  clear hb1
  clear q_a0 f_a0 q_a1 f_a1; obtain ⟨q_a0, f_a0, q_a1, f_a1⟩ := x_a.al
  clear q_r0 f_r0 q_r1 f_r1; obtain ⟨q_r0, f_r0, q_r1, f_r1⟩ := x_r.al
  clear q_p0 f_p0 q_p1 f_p1; obtain ⟨q_p0, f_p0, q_p1, f_p1⟩ := x_p.al
  rw [HMY.out]
  clear q_r0 f_r0 q_r1 f_r1
  clear q_p0 f_p0 q_p1 f_p1
  go_upto_region 4 with fail
  have hv := Below.refl v2.heap.size v2
  have l_a_c := x_a.lt
  have l_r_c := x_r.lt
  have l_p_c := x_p.lt
  go_cut [10, 11] (fun s9 t9 wx => BnNew2 v2 L0 H0 20 20 s9 t9 wx)
  case first =>
    go_region_held3 (fun w' => w'.cell? ⟨w.heap.size, 0, none⟩ = some (.bool b) ∧ w'.cell? ⟨w.heap.size, 1, none⟩ = some (.slice A n c))
      (first | (with_reducible exact ⟨x_a.c0, x_a.c1⟩) | (with_reducible exact ⟨(x_a.alloc _).c0, (x_a.alloc _).c1⟩) | (with_reducible exact ⟨((x_a.alloc _).alloc _).c0, ((x_a.alloc _).alloc _).c1⟩) | (with_reducible exact ⟨(x_a.aside (by omega)).c0, (x_a.aside (by omega)).c1⟩) | (with_reducible exact ⟨((x_a.alloc _).aside (by omega)).c0, ((x_a.alloc _).aside (by omega)).c1⟩) | (with_reducible exact ⟨((x_a.aside (by omega)).alloc _).c0, ((x_a.aside (by omega)).alloc _).c1⟩) | (with_reducible exact ⟨(((x_a.alloc _).alloc _).aside (by omega)).c0, (((x_a.alloc _).alloc _).aside (by omega)).c1⟩) | (with_reducible exact ⟨((x_a.aside (by omega)).aside (by omega)).c0, ((x_a.aside (by omega)).aside (by omega)).c1⟩) | (with_reducible exact ⟨(((x_a.alloc _).aside (by omega)).aside (by omega)).c0, (((x_a.alloc _).aside (by omega)).aside (by omega)).c1⟩) | (with_reducible exact ⟨((((x_a.alloc _).alloc _).aside (by omega)).aside (by omega)).c0, ((((x_a.alloc _).alloc _).aside (by omega)).aside (by omega)).c1⟩) | go_keep)
      (first | (go_at_call 31; (with_reducible refine (ROf_any 1 (by omega) (by omega)).mono ?_); rintro e v3 ⟨A9, n9, c9, rfl, z9, hb1⟩; replace hb1 := undrew hb1; (try replace x_n1 := x_n1.keep hb1); (try replace x_n2 := x_n2.keep hb1); replace hv := bthen hv hb1; have hvs_v3 := hv.size; replace x_a := x_a.keep hb1; replace x_r := x_r.keep hb1; replace x_p := x_p.keep hb1; replace h := h.keep hb1; replace hb := bthen hb hb1; clear hb1; clear q_a0 f_a0 q_a1 f_a1; obtain ⟨q_a0, f_a0, q_a1, f_a1⟩ := x_a.al; (try (have q_n10 := x_n1.c0; have f_n10 := x_n1.fr 0; have q_n11 := x_n1.c1; have f_n11 := x_n1.fr 1; have lt_n1 := x_n1.lt; have y_n1 := x_n1.alloc (.cells #[.bool false, .slice none 0 0] 24); have qy_n10 := y_n1.c0; have fy_n10 := y_n1.fr 0; have qy_n11 := y_n1.c1; have fy_n11 := y_n1.fr 1)); (try (have q_n20 := x_n2.c0; have f_n20 := x_n2.fr 0; have q_n21 := x_n2.c1; have f_n21 := x_n2.fr 1; have lt_n2 := x_n2.lt; have y_n2 := x_n2.alloc (.cells #[.bool false, .slice none 0 0] 24); have qy_n20 := y_n2.c0; have fy_n20 := y_n2.fr 0; have qy_n21 := y_n2.c1; have fy_n21 := y_n2.fr 1))) | (go_at_call 31; (with_reducible refine (ROf_any 1 (by omega) (by omega)).mono ?_); rintro e v3 ⟨A9, n9, c9, rfl, z9, hb1⟩; replace hb1 := undrew hb1; (first | (have lt_n := x_n1.lt; replace x_n1 := x_n1.keep (bthen (below_alloc v2 (.cells #[.bool false, .slice none 0 0] 24)) hb1); have x_n2 := (Bx.new v2 false none 0 0).keep hb1) | (have x_n1 := (Bx.new v2 false none 0 0).keep hb1)); replace hb1 := bthen (below_alloc v2 (.cells #[.bool false, .slice none 0 0] 24)) hb1; replace hv := bthen hv hb1; have hvs_v3 := hv.size; replace x_a := x_a.keep hb1; replace x_r := x_r.keep hb1; replace x_p := x_p.keep hb1; replace h := h.keep hb1; replace hb := bthen hb hb1; clear hb1; clear q_a0 f_a0 q_a1 f_a1; obtain ⟨q_a0, f_a0, q_a1, f_a1⟩ := x_a.al; (try (have q_n10 := x_n1.c0; have f_n10 := x_n1.fr 0; have q_n11 := x_n1.c1; have f_n11 := x_n1.fr 1; have lt_n1 := x_n1.lt; have y_n1 := x_n1.alloc (.cells #[.bool false, .slice none 0 0] 24); have qy_n10 := y_n1.c0; have fy_n10 := y_n1.fr 0; have qy_n11 := y_n1.c1; have fy_n11 := y_n1.fr 1)); (try (have q_n20 := x_n2.c0; have f_n20 := x_n2.fr 0; have q_n21 := x_n2.c1; have f_n21 := x_n2.fr 1; have lt_n2 := x_n2.lt; have y_n2 := x_n2.alloc (.cells #[.bool false, .slice none 0 0] 24); have qy_n20 := y_n2.c0; have fy_n20 := y_n2.fr 0; have qy_n21 := y_n2.c1; have fy_n21 := y_n2.fr 1))) | (go_at_call 31; (with_reducible refine (ROf_any 1 (by omega) (by omega)).mono ?_); rintro e v3 ⟨A9, n9, c9, rfl, z9, hb1⟩; replace hb1 := undrew hb1; have x_n1 := ((Bx.new v2 false none 0 0).alloc (.cells #[.bool false, .slice none 0 0] 24)).keep hb1; have x_n2 := (Bx.at_size (alloc_size v2 (.cells #[.bool false, .slice none 0 0] 24)) : Bx ((v2.alloc (.cells #[.bool false, .slice none 0 0] 24)).alloc (.cells #[.bool false, .slice none 0 0] 24)) (v2.heap.size + 1) false none 0 0).keep hb1; replace hb1 := bthen (below_alloc2 v2 (.cells #[.bool false, .slice none 0 0] 24) (.cells #[.bool false, .slice none 0 0] 24)) hb1; replace hv := bthen hv hb1; have hvs_v3 := hv.size; replace x_a := x_a.keep hb1; replace x_r := x_r.keep hb1; replace x_p := x_p.keep hb1; replace h := h.keep hb1; replace hb := bthen hb hb1; clear hb1; clear q_a0 f_a0 q_a1 f_a1; obtain ⟨q_a0, f_a0, q_a1, f_a1⟩ := x_a.al; (try (have q_n10 := x_n1.c0; have f_n10 := x_n1.fr 0; have q_n11 := x_n1.c1; have f_n11 := x_n1.fr 1; have lt_n1 := x_n1.lt; have y_n1 := x_n1.alloc (.cells #[.bool false, .slice none 0 0] 24); have qy_n10 := y_n1.c0; have fy_n10 := y_n1.fr 0; have qy_n11 := y_n1.c1; have fy_n11 := y_n1.fr 1)); (try (have q_n20 := x_n2.c0; have f_n20 := x_n2.fr 0; have q_n21 := x_n2.c1; have f_n21 := x_n2.fr 1; have lt_n2 := x_n2.lt; have y_n2 := x_n2.alloc (.cells #[.bool false, .slice none 0 0] 24); have qy_n20 := y_n2.c0; have fy_n20 := y_n2.fr 0; have qy_n21 := y_n2.c1; have fy_n21 := y_n2.fr 1))) | (go_at_call 30; (with_reducible refine (RShlZ_any z9.zr Q 130 (by omega) (by omega)).mono ?_); rintro e v4 ⟨A8, n8, c8, rfl, z8, hb1⟩; (try replace x_n1 := x_n1.keep hb1); (try replace x_n2 := x_n2.keep hb1); replace hv := bthen hv hb1; have hvs_v4 := hv.size; replace x_a := x_a.keep hb1; replace x_r := x_r.keep hb1; replace x_p := x_p.keep hb1; replace h := h.keep hb1; replace z9 := z9.keep hb1; replace hb := bthen hb hb1; clear hb1; clear q_a0 f_a0 q_a1 f_a1; obtain ⟨q_a0, f_a0, q_a1, f_a1⟩ := x_a.al; rw [HT.out] at z8 ⊢; replace z8 := z8.slim BT.out; (try (have q_n10 := x_n1.c0; have f_n10 := x_n1.fr 0; have q_n11 := x_n1.c1; have f_n11 := x_n1.fr 1; have lt_n1 := x_n1.lt; have y_n1 := x_n1.alloc (.cells #[.bool false, .slice none 0 0] 24); have qy_n10 := y_n1.c0; have fy_n10 := y_n1.fr 0; have qy_n11 := y_n1.c1; have fy_n11 := y_n1.fr 1)); (try (have q_n20 := x_n2.c0; have f_n20 := x_n2.fr 0; have q_n21 := x_n2.c1; have f_n21 := x_n2.fr 1; have lt_n2 := x_n2.lt; have y_n2 := x_n2.alloc (.cells #[.bool false, .slice none 0 0] 24); have qy_n20 := y_n2.c0; have fy_n20 := y_n2.fr 0; have qy_n21 := y_n2.c1; have fy_n21 := y_n2.fr 1))) | (go_at_call 30; (with_reducible refine (RShlZ_any (z9.keep (below_alloc v3 (.cells #[.bool false, .slice none 0 0] 24))).zr Q 130 (by omega) (by omega)).mono ?_); rintro e v4 ⟨A8, n8, c8, rfl, z8, hb1⟩; (first | (have lt_n := x_n1.lt; replace x_n1 := x_n1.keep (bthen (below_alloc v3 (.cells #[.bool false, .slice none 0 0] 24)) hb1); have x_n2 := (Bx.new v3 false none 0 0).keep hb1) | (have x_n1 := (Bx.new v3 false none 0 0).keep hb1)); replace hb1 := bthen (below_alloc v3 (.cells #[.bool false, .slice none 0 0] 24)) hb1; replace hv := bthen hv hb1; have hvs_v4 := hv.size; replace x_a := x_a.keep hb1; replace x_r := x_r.keep hb1; replace x_p := x_p.keep hb1; replace h := h.keep hb1; replace z9 := z9.keep hb1; replace hb := bthen hb hb1; clear hb1; clear q_a0 f_a0 q_a1 f_a1; obtain ⟨q_a0, f_a0, q_a1, f_a1⟩ := x_a.al; rw [HT.out] at z8 ⊢; replace z8 := z8.slim BT.out; (try (have q_n10 := x_n1.c0; have f_n10 := x_n1.fr 0; have q_n11 := x_n1.c1; have f_n11 := x_n1.fr 1; have lt_n1 := x_n1.lt; have y_n1 := x_n1.alloc (.cells #[.bool false, .slice none 0 0] 24); have qy_n10 := y_n1.c0; have fy_n10 := y_n1.fr 0; have qy_n11 := y_n1.c1; have fy_n11 := y_n1.fr 1)); (try (have q_n20 := x_n2.c0; have f_n20 := x_n2.fr 0; have q_n21 := x_n2.c1; have f_n21 := x_n2.fr 1; have lt_n2 := x_n2.lt; have y_n2 := x_n2.alloc (.cells #[.bool false, .slice none 0 0] 24); have qy_n20 := y_n2.c0; have fy_n20 := y_n2.fr 0; have qy_n21 := y_n2.c1; have fy_n21 := y_n2.fr 1))) | (go_at_call 30; (with_reducible refine (RShlZ_any (z9.keep (below_alloc2 v3 (.cells #[.bool false, .slice none 0 0] 24) (.cells #[.bool false, .slice none 0 0] 24))).zr Q 130 (by omega) (by omega)).mono ?_); rintro e v4 ⟨A8, n8, c8, rfl, z8, hb1⟩; have x_n1 := ((Bx.new v3 false none 0 0).alloc (.cells #[.bool false, .slice none 0 0] 24)).keep hb1; have x_n2 := (Bx.at_size (alloc_size v3 (.cells #[.bool false, .slice none 0 0] 24)) : Bx ((v3.alloc (.cells #[.bool false, .slice none 0 0] 24)).alloc (.cells #[.bool false, .slice none 0 0] 24)) (v3.heap.size + 1) false none 0 0).keep hb1; replace hb1 := bthen (below_alloc2 v3 (.cells #[.bool false, .slice none 0 0] 24) (.cells #[.bool false, .slice none 0 0] 24)) hb1; replace hv := bthen hv hb1; have hvs_v4 := hv.size; replace x_a := x_a.keep hb1; replace x_r := x_r.keep hb1; replace x_p := x_p.keep hb1; replace h := h.keep hb1; replace z9 := z9.keep hb1; replace hb := bthen hb hb1; clear hb1; clear q_a0 f_a0 q_a1 f_a1; obtain ⟨q_a0, f_a0, q_a1, f_a1⟩ := x_a.al; rw [HT.out] at z8 ⊢; replace z8 := z8.slim BT.out; (try (have q_n10 := x_n1.c0; have f_n10 := x_n1.fr 0; have q_n11 := x_n1.c1; have f_n11 := x_n1.fr 1; have lt_n1 := x_n1.lt; have y_n1 := x_n1.alloc (.cells #[.bool false, .slice none 0 0] 24); have qy_n10 := y_n1.c0; have fy_n10 := y_n1.fr 0; have qy_n11 := y_n1.c1; have fy_n11 := y_n1.fr 1)); (try (have q_n20 := x_n2.c0; have f_n20 := x_n2.fr 0; have q_n21 := x_n2.c1; have f_n21 := x_n2.fr 1; have lt_n2 := x_n2.lt; have y_n2 := x_n2.alloc (.cells #[.bool false, .slice none 0 0] 24); have qy_n20 := y_n2.c0; have fy_n20 := y_n2.fr 0; have qy_n21 := y_n2.c1; have fy_n21 := y_n2.fr 1))) | (go_at_call 43; (with_reducible refine (Rwave_cs h Q M z8 hQ hM HX.out hj).mono ?_); rintro e v5 ⟨A5, n5, c5, A6, n6, c6, rfl, z5, z6, hb1⟩; (try replace x_n1 := x_n1.keep hb1); (try replace x_n2 := x_n2.keep hb1); replace hv := bthen hv hb1; have hvs_v5 := hv.size; replace x_a := x_a.keep hb1; replace x_r := x_r.keep hb1; replace x_p := x_p.keep hb1; replace h := h.keep hb1; replace z9 := z9.keep hb1; replace z8 := z8.keep hb1; replace hb := bthen hb hb1; clear hb1; clear q_a0 f_a0 q_a1 f_a1; obtain ⟨q_a0, f_a0, q_a1, f_a1⟩ := x_a.al; rw [HL.out] at z5 ⊢; rw [HH.out] at z6 ⊢; (try (have q_n10 := x_n1.c0; have f_n10 := x_n1.fr 0; have q_n11 := x_n1.c1; have f_n11 := x_n1.fr 1; have lt_n1 := x_n1.lt; have y_n1 := x_n1.alloc (.cells #[.bool false, .slice none 0 0] 24); have qy_n10 := y_n1.c0; have fy_n10 := y_n1.fr 0; have qy_n11 := y_n1.c1; have fy_n11 := y_n1.fr 1)); (try (have q_n20 := x_n2.c0; have f_n20 := x_n2.fr 0; have q_n21 := x_n2.c1; have f_n21 := x_n2.fr 1; have lt_n2 := x_n2.lt; have y_n2 := x_n2.alloc (.cells #[.bool false, .slice none 0 0] 24); have qy_n20 := y_n2.c0; have fy_n20 := y_n2.fr 0; have qy_n21 := y_n2.c1; have fy_n21 := y_n2.fr 1))) | (go_at_call 43; (with_reducible refine (Rwave_cs (h.keep (below_alloc v4 (.cells #[.bool false, .slice none 0 0] 24))) Q M (z8.keep (below_alloc v4 (.cells #[.bool false, .slice none 0 0] 24))) hQ hM HX.out hj).mono ?_); rintro e v5 ⟨A5, n5, c5, A6, n6, c6, rfl, z5, z6, hb1⟩; (first | (have lt_n := x_n1.lt; replace x_n1 := x_n1.keep (bthen (below_alloc v4 (.cells #[.bool false, .slice none 0 0] 24)) hb1); have x_n2 := (Bx.new v4 false none 0 0).keep hb1) | (have x_n1 := (Bx.new v4 false none 0 0).keep hb1)); replace hb1 := bthen (below_alloc v4 (.cells #[.bool false, .slice none 0 0] 24)) hb1; replace hv := bthen hv hb1; have hvs_v5 := hv.size; replace x_a := x_a.keep hb1; replace x_r := x_r.keep hb1; replace x_p := x_p.keep hb1; replace h := h.keep hb1; replace z9 := z9.keep hb1; replace z8 := z8.keep hb1; replace hb := bthen hb hb1; clear hb1; clear q_a0 f_a0 q_a1 f_a1; obtain ⟨q_a0, f_a0, q_a1, f_a1⟩ := x_a.al; rw [HL.out] at z5 ⊢; rw [HH.out] at z6 ⊢; (try (have q_n10 := x_n1.c0; have f_n10 := x_n1.fr 0; have q_n11 := x_n1.c1; have f_n11 := x_n1.fr 1; have lt_n1 := x_n1.lt; have y_n1 := x_n1.alloc (.cells #[.bool false, .slice none 0 0] 24); have qy_n10 := y_n1.c0; have fy_n10 := y_n1.fr 0; have qy_n11 := y_n1.c1; have fy_n11 := y_n1.fr 1)); (try (have q_n20 := x_n2.c0; have f_n20 := x_n2.fr 0; have q_n21 := x_n2.c1; have f_n21 := x_n2.fr 1; have lt_n2 := x_n2.lt; have y_n2 := x_n2.alloc (.cells #[.bool false, .slice none 0 0] 24); have qy_n20 := y_n2.c0; have fy_n20 := y_n2.fr 0; have qy_n21 := y_n2.c1; have fy_n21 := y_n2.fr 1))) | (go_at_call 43; (with_reducible refine (Rwave_cs (h.keep (below_alloc2 v4 (.cells #[.bool false, .slice none 0 0] 24) (.cells #[.bool false, .slice none 0 0] 24))) Q M (z8.keep (below_alloc2 v4 (.cells #[.bool false, .slice none 0 0] 24) (.cells #[.bool false, .slice none 0 0] 24))) hQ hM HX.out hj).mono ?_); rintro e v5 ⟨A5, n5, c5, A6, n6, c6, rfl, z5, z6, hb1⟩; have x_n1 := ((Bx.new v4 false none 0 0).alloc (.cells #[.bool false, .slice none 0 0] 24)).keep hb1; have x_n2 := (Bx.at_size (alloc_size v4 (.cells #[.bool false, .slice none 0 0] 24)) : Bx ((v4.alloc (.cells #[.bool false, .slice none 0 0] 24)).alloc (.cells #[.bool false, .slice none 0 0] 24)) (v4.heap.size + 1) false none 0 0).keep hb1; replace hb1 := bthen (below_alloc2 v4 (.cells #[.bool false, .slice none 0 0] 24) (.cells #[.bool false, .slice none 0 0] 24)) hb1; replace hv := bthen hv hb1; have hvs_v5 := hv.size; replace x_a := x_a.keep hb1; replace x_r := x_r.keep hb1; replace x_p := x_p.keep hb1; replace h := h.keep hb1; replace z9 := z9.keep hb1; replace z8 := z8.keep hb1; replace hb := bthen hb hb1; clear hb1; clear q_a0 f_a0 q_a1 f_a1; obtain ⟨q_a0, f_a0, q_a1, f_a1⟩ := x_a.al; rw [HL.out] at z5 ⊢; rw [HH.out] at z6 ⊢; (try (have q_n10 := x_n1.c0; have f_n10 := x_n1.fr 0; have q_n11 := x_n1.c1; have f_n11 := x_n1.fr 1; have lt_n1 := x_n1.lt; have y_n1 := x_n1.alloc (.cells #[.bool false, .slice none 0 0] 24); have qy_n10 := y_n1.c0; have fy_n10 := y_n1.fr 0; have qy_n11 := y_n1.c1; have fy_n11 := y_n1.fr 1)); (try (have q_n20 := x_n2.c0; have f_n20 := x_n2.fr 0; have q_n21 := x_n2.c1; have f_n21 := x_n2.fr 1; have lt_n2 := x_n2.lt; have y_n2 := x_n2.alloc (.cells #[.bool false, .slice none 0 0] 24); have qy_n20 := y_n2.c0; have fy_n20 := y_n2.fr 0; have qy_n21 := y_n2.c1; have fy_n21 := y_n2.fr 1))))
    all_goals go_wp2_with fail
    all_goals go_meet
    all_goals first | (with_reducible exact BnNew2.ll hv z5 z6) | (with_reducible exact BnNew2.mm hv z5 z6) | (with_reducible exact BnNew2.el hv x_n1 (by omega) z5 z6) | (with_reducible exact BnNew2.le hv x_n1 (by omega) z5 z6) | (with_reducible exact BnNew2.gl hv x_n1 (by omega) z5 z6) | (with_reducible exact BnNew2.lg hv x_n1 (by omega) z5 z6) | (with_reducible exact BnNew2.el hv x_n2 (by omega) z5 z6) | (with_reducible exact BnNew2.le hv x_n2 (by omega) z5 z6) | (with_reducible exact BnNew2.gl hv x_n2 (by omega) z5 z6) | (with_reducible exact BnNew2.lg hv x_n2 (by omega) z5 z6) | (with_reducible exact BnNew2.ee hv x_n1 (by omega) x_n2 (by omega) (by omega) z5 z6) | (with_reducible exact BnNew2.ff hv x_n1 (by omega) x_n2 (by omega) (by omega) z5 z6) | (with_reducible exact BnNew2.ee hv x_n2 (by omega) x_n1 (by omega) (by omega) z5 z6) | (with_reducible exact BnNew2.ff hv x_n2 (by omega) x_n1 (by omega) (by omega) z5 z6)
  case rest =>
    obtain ⟨g6, g7, Ax8, nx8, cx8, Ay8, ny8, cy8, rfl, rfl, ne_c, x_c, x_d, z_c, z_d, e_c, e_d, hb1⟩ := hcut
    clear hv
    replace x_a := x_a.keep hb1
    replace x_r := x_r.keep hb1
    replace x_p := x_p.keep hb1
    replace h := h.keep hb1
    replace hb := bthen hb hb1
    clear hb1
    clear q_a0 f_a0 q_a1 f_a1; obtain ⟨q_a0, f_a0, q_a1, f_a1⟩ := x_a.al
    clear q_a0 f_a0 q_a1 f_a1
    generalize wc = v9 at *
    obtain ⟨q_a0, f_a0, q_a1, f_a1⟩ := x_a.al
    obtain ⟨q_c0, f_c0, q_c1, f_c1⟩ := x_c.al
    obtain ⟨q_d0, f_d0, q_d1, f_d1⟩ := x_d.al
    obtain ⟨q_r0, f_r0, q_r1, f_r1⟩ := x_r.al
    obtain ⟨q_p0, f_p0, q_p1, f_p1⟩ := x_p.al
    go_upto_region 5 with fail
    go_region
    all_goals
      replace x_a := x_a.aside (b' := (ngB L0)) (A' := Ax8) (n' := nx8) (c' := cx8) (g := w.heap.size + 1) (by omega)
      replace x_p := x_p.aside (b' := (ngB L0)) (A' := Ax8) (n' := nx8) (c' := cx8) (g := w.heap.size + 1) (by omega)
      replace x_c := x_c.aside (b' := (ngB L0)) (A' := Ax8) (n' := nx8) (c' := cx8) (g := w.heap.size + 1) (by omega)
      replace x_d := x_d.aside (b' := (ngB L0)) (A' := Ax8) (n' := nx8) (c' := cx8) (g := w.heap.size + 1) (by omega)
      replace h := h.put (b' := (ngB L0)) (A' := Ax8) (n' := nx8) (c' := cx8) x_r
      replace z_c := z_c.put (b' := (ngB L0)) (A' := Ax8) (n' := nx8) (c' := cx8) x_r
      replace z_d := z_d.put (b' := (ngB L0)) (A' := Ax8) (n' := nx8) (c' := cx8) x_r
      replace hb := put_below (g := w.heap.size + 1) hb (by omega) (.bool (ngB L0)) (.slice Ax8 nx8 cx8)
      replace x_r := x_r.put (ngB L0) Ax8 nx8 cx8
      clear q_a0 f_a0 q_a1 f_a1 q_r0 f_r0 q_r1 f_r1 q_p0 f_p0 q_p1 f_p1 q_c0 f_c0 q_c1 f_c1 q_d0 f_d0 q_d1 f_d1
      generalize (v9.setCell ⟨w.heap.size + 1, 0, none⟩ (.bool (ngB L0))).setCell ⟨w.heap.size + 1, 1, none⟩ (.slice Ax8 nx8 cx8) = v10 at *
      obtain ⟨q_a0, f_a0, q_a1, f_a1⟩ := x_a.al
      obtain ⟨q_r0, f_r0, q_r1, f_r1⟩ := x_r.al
      obtain ⟨q_p0, f_p0, q_p1, f_p1⟩ := x_p.al
      obtain ⟨q_c0, f_c0, q_c1, f_c1⟩ := x_c.al
      obtain ⟨q_d0, f_d0, q_d1, f_d1⟩ := x_d.al
      replace x_a := x_a.aside (b' := (ngB H0)) (A' := Ay8) (n' := ny8) (c' := cy8) (g := w.heap.size + 1 + 1) (by omega)
      replace x_r := x_r.aside (b' := (ngB H0)) (A' := Ay8) (n' := ny8) (c' := cy8) (g := w.heap.size + 1 + 1) (by omega)
      replace x_c := x_c.aside (b' := (ngB H0)) (A' := Ay8) (n' := ny8) (c' := cy8) (g := w.heap.size + 1 + 1) (by omega)
      replace x_d := x_d.aside (b' := (ngB H0)) (A' := Ay8) (n' := ny8) (c' := cy8) (g := w.heap.size + 1 + 1) (by omega)
      replace h := h.put (b' := (ngB H0)) (A' := Ay8) (n' := ny8) (c' := cy8) x_p
      replace z_c := z_c.put (b' := (ngB H0)) (A' := Ay8) (n' := ny8) (c' := cy8) x_p
      replace z_d := z_d.put (b' := (ngB H0)) (A' := Ay8) (n' := ny8) (c' := cy8) x_p
      replace hb := put_below (g := w.heap.size + 1 + 1) hb (by omega) (.bool (ngB H0)) (.slice Ay8 ny8 cy8)
      replace x_p := x_p.put (ngB H0) Ay8 ny8 cy8
      clear q_a0 f_a0 q_a1 f_a1 q_r0 f_r0 q_r1 f_r1 q_p0 f_p0 q_p1 f_p1 q_c0 f_c0 q_c1 f_c1 q_d0 f_d0 q_d1 f_d1
      generalize (v10.setCell ⟨w.heap.size + 1 + 1, 0, none⟩ (.bool (ngB H0))).setCell ⟨w.heap.size + 1 + 1, 1, none⟩ (.slice Ay8 ny8 cy8) = v11 at *
      obtain ⟨q_a0, f_a0, q_a1, f_a1⟩ := x_a.al
      obtain ⟨q_r0, f_r0, q_r1, f_r1⟩ := x_r.al
      obtain ⟨q_p0, f_p0, q_p1, f_p1⟩ := x_p.al
      obtain ⟨q_c0, f_c0, q_c1, f_c1⟩ := x_c.al
      obtain ⟨q_d0, f_d0, q_d1, f_d1⟩ := x_d.al
      replace z_c := z_c.wide (show 20 ≤ 25 by omega)
      replace z_d := z_d.wide (show 20 ≤ 25 by omega)
      go_wp2
      refine bodyPost_ret (v := .tuple #[.agg #[.bool (ngB L0), .slice Ax8 nx8 cx8], .agg #[.bool (ngB H0), .slice Ay8 ny8 cy8], .int .i64 0]) (by simp [results, Tryz.results19, go_sem, q_r0, q_r1, q_p0, q_p1]) rfl ?_
      exact Ou2.mk rfl rfl z_c.drw z_d.drw (below_drew hb)

end Go.Proofs.YthlpdljkclngdaaGreat
