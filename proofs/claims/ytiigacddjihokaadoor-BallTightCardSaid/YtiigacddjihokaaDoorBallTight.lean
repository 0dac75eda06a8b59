/-
  The law BallTight, as a call.
-/
import Derived.Test.YtiigacddjihokaaDoorLlaw
import Derived.Deep.DeepCutAuto
namespace Go.Proofs.YtiigacddjihokaaDoor
open Go.RowKit
set_option linter.unusedVariables false

/-- A new box of a ball, in a world that is otherwise as it was. -/
def LxNew (v : World) (X Y q : Int) (k k2 : Nat) (s : Value) (wx : World) : Prop :=
  ∃ g b A n c b2 A2 n2 c2, s = .pointer (some ⟨g, 0, none⟩) ∧ Lx wx g b A n c b2 A2 n2 c2 q ∧ Zr wx b A n c X k ∧ Zr wx b2 A2 n2 c2 Y k2 ∧ v.heap.size ≤ g ∧ Below v.heap.size v wx
theorem LxNew.put {v wx : World} {X Y q : Int} {k k2 g n c n2 c2 m1 d1 m2 d2 : Nat} {b b2 p1 p2 : Bool} {A A2 B1 B2 : Option Addr} {e0 : Int} (hv : Below v.heap.size v wx) (x : Lx wx g p1 B1 m1 d1 p2 B2 m2 d2 e0) (hg : v.heap.size ≤ g) (z : Zr wx b A n c X k) (z2 : Zr wx b2 A2 n2 c2 Y k2) :
    LxNew v X Y q k k2 (.pointer (some ⟨g, 0, none⟩)) (((((wx.setCell ⟨g, 0, none⟩ (.bool b)).setCell ⟨g, 1, none⟩ (.slice A n c)).setCell ⟨g, 2, none⟩ (.bool b2)).setCell ⟨g, 3, none⟩ (.slice A2 n2 c2)).setCell ⟨g, 4, none⟩ (.int .i64 q)) :=
  ⟨g, _, _, _, _, _, _, _, _, rfl, x.put _ _ _ _ _ _ _ _ _, z.putL x, z2.putL x, hg, put_belowL hv hg _ _ _ _ _⟩
theorem LxNew.new {v wx : World} {X Y q : Int} {k k2 n c n2 c2 : Nat} {b b2 : Bool} {A A2 : Option Addr} (hv : Below v.heap.size v wx) (z : Zr wx b A n c X k) (z2 : Zr wx b2 A2 n2 c2 Y k2) :
    LxNew v X Y q k k2 (.pointer (some ⟨wx.heap.size, 0, none⟩)) (wx.alloc (.cells #[.bool b, .slice A n c, .bool b2, .slice A2 n2 c2, .int .i64 q] 26)) :=
  ⟨wx.heap.size, _, _, _, _, _, _, _, _, rfl, Lx.new _ _ _ _ _ _ _ _ _ _, z.keep (below_alloc _ _), z2.keep (below_alloc _ _), hv.size, bthen hv (below_alloc _ _)⟩
/-- A ball of other places: it holds the ball, and none that is smaller does. -/
theorem rc_tight {X Y q p : Int} (h : X ≤ Y) (hq : 0 ≤ q ∧ q ≤ 2048) (hp : 0 ≤ p ∧ p ≤ 2048) {L H : Int} (hL : flI X (-q + p) = L) (hH : -flI (-Y) (-q + p) = H) :
    insB X Y q L H p = true ∧ insB X Y q (L + 1) H p = false ∧ insB X Y q L (H - 1) p = false ∧ (q ≤ p → insB L H p X Y q = true) := by
  have l1 := (le_flI (Z := L) (X := X) (e := -q) (q := p) (by omega) (by omega)).1 (by omega)
  have h1 := (ceI_le (Z := H) (X := Y) (e := -q) (q := p) (by omega) (by omega)).1 (by omega)
  have hxy := (vd_le (e := -q)).2 h
  have hLH : L ≤ H := (vd_le (e := -p)).1 (by omega)
  refine ⟨?_, ?_, ?_, fun hqp => ?_⟩
  · unfold insB; exact decide_eq_true ⟨⟨hq.1, hq.2, h⟩, ⟨hp.1, hp.2, hLH⟩, l1, h1⟩
  · unfold insB
    refine dec_no (fun hc => ?_)
    have := (le_flI (Z := L + 1) (X := X) (e := -q) (q := p) (by omega) (by omega)).2 hc.2.2.1
    omega
  · unfold insB
    refine dec_no (fun hc => ?_)
    have := (ceI_le (Z := H - 1) (X := Y) (e := -q) (q := p) (by omega) (by omega)).2 hc.2.2.2
    omega
  · have key : ∀ Z : Int, vd (flI Z (-q + p)) (-p) = vd Z (-q) := fun Z => by
      unfold flI vd
      rw [if_neg (by omega), Int.mul_assoc, ipow_add, show (-q + p).toNat + (-p + 4000).toNat = (-q + 4000).toNat by omega]
    have k1 := key X
    have k2 := key (-Y)
    rw [hL] at k1
    rw [show flI (-Y) (-q + p) = -H by omega, vd_neg, vd_neg] at k2
    unfold insB
    exact decide_eq_true ⟨⟨hp.1, hp.2, hLH⟩, ⟨hq.1, hq.2, h⟩, by omega, by omega⟩

set_option maxRecDepth 100000 in
set_option maxHeartbeats 16000000 in
theorem BallTight_any {b b2 : Bool} {A A2 : Option Addr} {n c n2 c2 : Nat} {q : Int} {l0 l1 : List Int} {w : World} (hT : Tab w) (g0 : Rd w w.heap.size A n c l0) (g1 : Rd w w.heap.size A2 n2 c2 l1) (p : Int) (hp : -9223372036854775808 ≤ p ∧ p ≤ 9223372036854775807) (t : Int) (ht : -9223372036854775808 ≤ t ∧ t ≤ 9223372036854775807) :
    Calls Tryd.prog 4 #[.agg #[.bool b, .slice A n c, .bool b2, .slice A2 n2 c2, .int .i64 q], .int .i64 p, .int .i64 t] w fun e w' => e = .returned (.bool true) ∧ Below w.heap.size w w' := by
  have hand := i64_and511 t
  go_enter Tryd.func4, Tryd.ntmps4
  go_wp2_with fail
  have x_a : Lx (w.alloc (.cells #[.bool b, .slice A n c, .bool b2, .slice A2 n2 c2, .int .i64 q] 26)) (w.heap.size) b A n c b2 A2 n2 c2 q := by have := Lx.new w b A n c b2 A2 n2 c2 q; simpa using this
  have hb : Below w.heap.size w (w.alloc (.cells #[.bool b, .slice A n c, .bool b2, .slice A2 n2 c2, .int .i64 q] 26)) := (Below.alloc (Below.refl w.heap.size w) (by simp) (.cells #[.bool b, .slice A n c, .bool b2, .slice A2 n2 c2, .int .i64 q] 26))
  generalize w.alloc (.cells #[.bool b, .slice A n c, .bool b2, .slice A2 n2 c2, .int .i64 q] 26) = v1 at *
  replace g0 := g0.go hb
  replace g1 := g1.go hb
  replace hT := hT.keep hb
  obtain ⟨q_a0, f_a0, q_a1, f_a1, q_a2, f_a2, q_a3, f_a3, q_a4, f_a4⟩ := x_a.al
  go_wp2_with fail
  with_reducible refine (Lshown_any hT).mono ?_
  rintro e v2 ⟨rfl, hb1⟩
  replace x_a := x_a.keep hb1
  replace g0 := g0.go hb1
  replace g1 := g1.go hb1
  replace hT := hT.keep hb1
  replace hb := bthen hb hb1
  clear hb1
  clear q_a0 f_a0 q_a1 f_a1 q_a2 f_a2 q_a3 f_a3 q_a4 f_a4; obtain ⟨q_a0, f_a0, q_a1, f_a1, q_a2, f_a2, q_a3, f_a3, q_a4, f_a4⟩ := x_a.al
  go_wp2_with fail
  with_reducible refine (right_any g0 g1 p).mono ?_
  rintro e v3 ⟨d1, E1, m1, k1, d2, E2, m2, k2, X, Y, rfl, za, zb, hXY, hb1⟩
  replace x_a := x_a.keep hb1
  replace g0 := g0.go hb1
  replace g1 := g1.go hb1
  replace hT := hT.keep hb1
  replace hb := bthen hb hb1
  clear hb1
  clear q_a0 f_a0 q_a1 f_a1 q_a2 f_a2 q_a3 f_a3 q_a4 f_a4; obtain ⟨q_a0, f_a0, q_a1, f_a1, q_a2, f_a2, q_a3, f_a3, q_a4, f_a4⟩ := x_a.al
  clear g0 g1
  go_wp2_with fail
  replace hT := hT.putL (b' := d1) (A' := E1) (n' := m1) (c' := k1) (p' := d2) (B' := E2) (m' := m2) (d' := k2) (e' := (p % 256)) x_a
  replace za := za.putL (b' := d1) (A' := E1) (n' := m1) (c' := k1) (p' := d2) (B' := E2) (m' := m2) (d' := k2) (e' := (p % 256)) x_a
  replace zb := zb.putL (b' := d1) (A' := E1) (n' := m1) (c' := k1) (p' := d2) (B' := E2) (m' := m2) (d' := k2) (e' := (p % 256)) x_a
  replace hb := put_belowL (g := w.heap.size) hb (by omega) (.bool d1) (.slice E1 m1 k1) (.bool d2) (.slice E2 m2 k2) (.int .i64 (p % 256))
  replace x_a := x_a.put d1 E1 m1 k1 d2 E2 m2 k2 (p % 256)
  clear q_a0 f_a0 q_a1 f_a1 q_a2 f_a2 q_a3 f_a3 q_a4 f_a4
  generalize ((((v3.setCell ⟨w.heap.size, 0, none⟩ (.bool d1)).setCell ⟨w.heap.size, 1, none⟩ (.slice E1 m1 k1)).setCell ⟨w.heap.size, 2, none⟩ (.bool d2)).setCell ⟨w.heap.size, 3, none⟩ (.slice E2 m2 k2)).setCell ⟨w.heap.size, 4, none⟩ (.int .i64 (p % 256)) = v4 at *
  obtain ⟨q_a0, f_a0, q_a1, f_a1, q_a2, f_a2, q_a3, f_a3, q_a4, f_a4⟩ := x_a.al
  have hq0 : 0 ≤ p % 256 ∧ p % 256 ≤ 2048 := ⟨by omega, by omega⟩
  have hq1 : 0 ≤ t % 512 ∧ t % 512 ≤ 2048 := ⟨by omega, by omega⟩
  generalize p % 256 = Q0 at *
  generalize t % 512 = Q1 at *
  obtain ⟨M, hM⟩ : ∃ M, flI X (-Q0 + Q1) = M := ⟨_, rfl⟩
  obtain ⟨H, hH⟩ : ∃ H, -flI (-Y) (-Q0 + Q1) = H := ⟨_, rfl⟩
  obtain ⟨i1, i2, i3, i4⟩ := rc_tight hXY hq0 hq1 hM hH
  have HI1 := Lib.hid i1; have HI2 := Lib.hid i2; have HI3 := Lib.hid i3; have HM1 := Lib.hid (ins_met i1); have HM := Lib.hid hM; have HH := Lib.hid hH; have HXY := Lib.hid hXY
  clear i1 i2 i3 hM hH hXY
  skip
  with_reducible refine (Recast_yes za zb Q1 ⟨hq0.1, hq0.2, HXY.out⟩ hq1 200 (by omega) (by omega) (by omega)).mono ?_
  rintro e v5 ⟨A5, n5, c5, A6, n6, c6, rfl, zc, zd, hb1⟩
  replace x_a := x_a.keep hb1
  replace hT := hT.keep hb1
  replace za := za.keep hb1
  replace zb := zb.keep hb1
  replace hb := bthen hb hb1
  clear hb1
  clear q_a0 f_a0 q_a1 f_a1 q_a2 f_a2 q_a3 f_a3 q_a4 f_a4; obtain ⟨q_a0, f_a0, q_a1, f_a1, q_a2, f_a2, q_a3, f_a3, q_a4, f_a4⟩ := x_a.al
  rw [HM.out] at zc
  rw [HH.out] at zd
  rw [HM.out, HH.out]
  have y_a := (x_a.alloc (.cells #[.bool (ngB M), .slice A5 n5 c5, .bool (ngB H), .slice A6 n6 c6, .int .i64 Q1] 26)); have yq_a0 := y_a.c0; have yq_a1 := y_a.c1; have yq_a2 := y_a.c2; have yq_a3 := y_a.c3; have yq_a4 := y_a.c4
  go_wp2_with fail
  clear y_a yq_a0 yq_a1 yq_a2 yq_a3 yq_a4
  have hb1 := below_alloc v5 (.cells #[.bool (ngB M), .slice A5 n5 c5, .bool (ngB H), .slice A6 n6 c6, .int .i64 Q1] 26)
  have l_a_c := x_a.lt
  have x_c := Lx.new v5 (ngB M) A5 n5 c5 (ngB H) A6 n6 c6 Q1
  have e_c : w.heap.size ≤ v5.heap.size := hb.size
  clear q_a0 f_a0 q_a1 f_a1 q_a2 f_a2 q_a3 f_a3 q_a4 f_a4
  replace x_a := x_a.keep hb1
  replace hT := hT.keep hb1
  replace za := za.keep hb1
  replace zb := zb.keep hb1
  replace zc := zc.keep hb1
  replace zd := zd.keep hb1
  replace hb := bthen hb hb1
  clear hb1
  generalize v5.alloc (.cells #[.bool (ngB M), .slice A5 n5 c5, .bool (ngB H), .slice A6 n6 c6, .int .i64 Q1] 26) = v6 at *
  obtain ⟨q_a0, f_a0, q_a1, f_a1, q_a2, f_a2, q_a3, f_a3, q_a4, f_a4⟩ := x_a.al
  obtain ⟨q_c0, f_c0, q_c1, f_c1, q_c2, f_c2, q_c3, f_c3, q_c4, f_c4⟩ := x_c.al
  skip
  with_reducible refine (Inside_any za zb zc.zr zd.zr (by omega) (by omega) (by omega) (by omega)).mono ?_
  rintro e v7 ⟨rfl, hb1⟩
  replace x_a := x_a.keep hb1
  replace x_c := x_c.keep hb1
  replace hT := hT.keep hb1
  replace za := za.keep hb1
  replace zb := zb.keep hb1
  replace zc := zc.keep hb1
  replace zd := zd.keep hb1
  replace hb := bthen hb hb1
  clear hb1
  clear q_a0 f_a0 q_a1 f_a1 q_a2 f_a2 q_a3 f_a3 q_a4 f_a4; obtain ⟨q_a0, f_a0, q_a1, f_a1, q_a2, f_a2, q_a3, f_a3, q_a4, f_a4⟩ := x_a.al
  clear q_c0 f_c0 q_c1 f_c1 q_c2 f_c2 q_c3 f_c3 q_c4 f_c4; obtain ⟨q_c0, f_c0, q_c1, f_c1, q_c2, f_c2, q_c3, f_c3, q_c4, f_c4⟩ := x_c.al
  rw [HI1.out]
  go_upto_region 7 with fail
  have hv := Below.refl v7.heap.size v7
  have l_a_o := x_a.lt
  have l_c_o := x_c.lt
  go_cut [10] (fun s9 wx => LxNew v7 (M + 1) H Q1 201 200 s9 wx)
  case first =>
    go_region_held3 (fun w' => w'.cell? ⟨v5.heap.size, 0, none⟩ = some (.bool (ngB M)) ∧ w'.cell? ⟨v5.heap.size, 1, none⟩ = some (.slice A5 n5 c5) ∧ w'.cell? ⟨v5.heap.size, 2, none⟩ = some (.bool (ngB H)) ∧ w'.cell? ⟨v5.heap.size, 3, none⟩ = some (.slice A6 n6 c6) ∧ w'.cell? ⟨v5.heap.size, 4, none⟩ = some (.int .i64 Q1))
      (first | (with_reducible exact ⟨x_c.c0, x_c.c1, x_c.c2, x_c.c3, x_c.c4⟩) | (with_reducible exact ⟨(x_c.alloc _).c0, (x_c.alloc _).c1, (x_c.alloc _).c2, (x_c.alloc _).c3, (x_c.alloc _).c4⟩) | (with_reducible exact ⟨(x_c.asideL (by omega)).c0, (x_c.asideL (by omega)).c1, (x_c.asideL (by omega)).c2, (x_c.asideL (by omega)).c3, (x_c.asideL (by omega)).c4⟩) | (with_reducible exact ⟨((x_c.alloc _).asideL (by omega)).c0, ((x_c.alloc _).asideL (by omega)).c1, ((x_c.alloc _).asideL (by omega)).c2, ((x_c.alloc _).asideL (by omega)).c3, ((x_c.alloc _).asideL (by omega)).c4⟩) | go_keep)
      (first | (go_at_call 20; (with_reducible refine (ZOf_any 1 (by omega) (by omega)).mono ?_); rintro e v8 ⟨A7, n7, c7, rfl, zo, hb1⟩; replace hb1 := undrew hb1; (try replace x_o := x_o.keep hb1); replace hv := bthen hv hb1; have hvs_v8 := hv.size; replace x_a := x_a.keep hb1; replace x_c := x_c.keep hb1; replace hT := hT.keep hb1; replace za := za.keep hb1; replace zb := zb.keep hb1; replace zc := zc.keep hb1; replace zd := zd.keep hb1; replace hb := bthen hb hb1; clear hb1; clear q_a0 f_a0 q_a1 f_a1 q_a2 f_a2 q_a3 f_a3 q_a4 f_a4; obtain ⟨q_a0, f_a0, q_a1, f_a1, q_a2, f_a2, q_a3, f_a3, q_a4, f_a4⟩ := x_a.al; clear q_c0 f_c0 q_c1 f_c1 q_c2 f_c2 q_c3 f_c3 q_c4 f_c4; obtain ⟨q_c0, f_c0, q_c1, f_c1, q_c2, f_c2, q_c3, f_c3, q_c4, f_c4⟩ := x_c.al; (try (have q_o0 := x_o.c0; have f_o0 := x_o.fr 0; have q_o1 := x_o.c1; have f_o1 := x_o.fr 1; have q_o2 := x_o.c2; have f_o2 := x_o.fr 2; have q_o3 := x_o.c3; have f_o3 := x_o.fr 3; have q_o4 := x_o.c4; have f_o4 := x_o.fr 4))) | (go_at_call 20; (with_reducible refine (ZOf_any 1 (by omega) (by omega)).mono ?_); rintro e v8 ⟨A7, n7, c7, rfl, zo, hb1⟩; replace hb1 := undrew hb1; have x_o := (Lx.new v7 false none 0 0 false none 0 0 0).keep hb1; replace hb1 := bthen (below_alloc v7 (.cells #[.bool false, .slice none 0 0, .bool false, .slice none 0 0, .int .i64 0] 26)) hb1; replace hv := bthen hv hb1; have hvs_v8 := hv.size; replace x_a := x_a.keep hb1; replace x_c := x_c.keep hb1; replace hT := hT.keep hb1; replace za := za.keep hb1; replace zb := zb.keep hb1; replace zc := zc.keep hb1; replace zd := zd.keep hb1; replace hb := bthen hb hb1; clear hb1; clear q_a0 f_a0 q_a1 f_a1 q_a2 f_a2 q_a3 f_a3 q_a4 f_a4; obtain ⟨q_a0, f_a0, q_a1, f_a1, q_a2, f_a2, q_a3, f_a3, q_a4, f_a4⟩ := x_a.al; clear q_c0 f_c0 q_c1 f_c1 q_c2 f_c2 q_c3 f_c3 q_c4 f_c4; obtain ⟨q_c0, f_c0, q_c1, f_c1, q_c2, f_c2, q_c3, f_c3, q_c4, f_c4⟩ := x_c.al; (try (have q_o0 := x_o.c0; have f_o0 := x_o.fr 0; have q_o1 := x_o.c1; have f_o1 := x_o.fr 1; have q_o2 := x_o.c2; have f_o2 := x_o.fr 2; have q_o3 := x_o.c3; have f_o3 := x_o.fr 3; have q_o4 := x_o.c4; have f_o4 := x_o.fr 4))) | (go_at_call 19; (with_reducible refine (ZAdd_any zc.zr zo.zr 201 (by omega) (by omega) (by omega)).mono ?_); rintro e v9 ⟨A8, n8, c8, rfl, zs, hb1⟩; (try replace x_o := x_o.keep hb1); replace hv := bthen hv hb1; have hvs_v9 := hv.size; replace x_a := x_a.keep hb1; replace x_c := x_c.keep hb1; replace hT := hT.keep hb1; replace za := za.keep hb1; replace zb := zb.keep hb1; replace zc := zc.keep hb1; replace zd := zd.keep hb1; replace zo := zo.keep hb1; replace hb := bthen hb hb1; clear hb1; clear q_a0 f_a0 q_a1 f_a1 q_a2 f_a2 q_a3 f_a3 q_a4 f_a4; obtain ⟨q_a0, f_a0, q_a1, f_a1, q_a2, f_a2, q_a3, f_a3, q_a4, f_a4⟩ := x_a.al; clear q_c0 f_c0 q_c1 f_c1 q_c2 f_c2 q_c3 f_c3 q_c4 f_c4; obtain ⟨q_c0, f_c0, q_c1, f_c1, q_c2, f_c2, q_c3, f_c3, q_c4, f_c4⟩ := x_c.al; (try (have q_o0 := x_o.c0; have f_o0 := x_o.fr 0; have q_o1 := x_o.c1; have f_o1 := x_o.fr 1; have q_o2 := x_o.c2; have f_o2 := x_o.fr 2; have q_o3 := x_o.c3; have f_o3 := x_o.fr 3; have q_o4 := x_o.c4; have f_o4 := x_o.fr 4))) | (go_at_call 19; (with_reducible refine (ZAdd_any (zc.keep (below_alloc v8 (.cells #[.bool false, .slice none 0 0, .bool false, .slice none 0 0, .int .i64 0] 26))).zr (zo.keep (below_alloc v8 (.cells #[.bool false, .slice none 0 0, .bool false, .slice none 0 0, .int .i64 0] 26))).zr 201 (by omega) (by omega) (by omega)).mono ?_); rintro e v9 ⟨A8, n8, c8, rfl, zs, hb1⟩; have x_o := (Lx.new v8 false none 0 0 false none 0 0 0).keep hb1; replace hb1 := bthen (below_alloc v8 (.cells #[.bool false, .slice none 0 0, .bool false, .slice none 0 0, .int .i64 0] 26)) hb1; replace hv := bthen hv hb1; have hvs_v9 := hv.size; replace x_a := x_a.keep hb1; replace x_c := x_c.keep hb1; replace hT := hT.keep hb1; replace za := za.keep hb1; replace zb := zb.keep hb1; replace zc := zc.keep hb1; replace zd := zd.keep hb1; replace zo := zo.keep hb1; replace hb := bthen hb hb1; clear hb1; clear q_a0 f_a0 q_a1 f_a1 q_a2 f_a2 q_a3 f_a3 q_a4 f_a4; obtain ⟨q_a0, f_a0, q_a1, f_a1, q_a2, f_a2, q_a3, f_a3, q_a4, f_a4⟩ := x_a.al; clear q_c0 f_c0 q_c1 f_c1 q_c2 f_c2 q_c3 f_c3 q_c4 f_c4; obtain ⟨q_c0, f_c0, q_c1, f_c1, q_c2, f_c2, q_c3, f_c3, q_c4, f_c4⟩ := x_c.al; (try (have q_o0 := x_o.c0; have f_o0 := x_o.fr 0; have q_o1 := x_o.c1; have f_o1 := x_o.fr 1; have q_o2 := x_o.c2; have f_o2 := x_o.fr 2; have q_o3 := x_o.c3; have f_o3 := x_o.fr 3; have q_o4 := x_o.c4; have f_o4 := x_o.fr 4))))
    all_goals go_wp2_with fail
    all_goals go_meet
    all_goals first | (with_reducible exact LxNew.new hv zs.zr zd.zr) | (with_reducible exact LxNew.put hv x_o (by omega) zs.zr zd.zr)
  case rest =>
    obtain ⟨g10, bx11, Ax11, nx11, cx11, by11, Ay11, ny11, cy11, rfl, x_o, z1_o, z2_o, e_o, hb1⟩ := hcut
    clear hv
    replace x_a := x_a.keep hb1
    replace x_c := x_c.keep hb1
    replace hT := hT.keep hb1
    replace za := za.keep hb1
    replace zb := zb.keep hb1
    replace zc := zc.keep hb1
    replace zd := zd.keep hb1
    replace hb := bthen hb hb1
    clear hb1
    clear q_a0 f_a0 q_a1 f_a1 q_a2 f_a2 q_a3 f_a3 q_a4 f_a4; obtain ⟨q_a0, f_a0, q_a1, f_a1, q_a2, f_a2, q_a3, f_a3, q_a4, f_a4⟩ := x_a.al
    clear q_c0 f_c0 q_c1 f_c1 q_c2 f_c2 q_c3 f_c3 q_c4 f_c4; obtain ⟨q_c0, f_c0, q_c1, f_c1, q_c2, f_c2, q_c3, f_c3, q_c4, f_c4⟩ := x_c.al
    clear q_a0 f_a0 q_a1 f_a1 q_a2 f_a2 q_a3 f_a3 q_a4 f_a4 q_c0 f_c0 q_c1 f_c1 q_c2 f_c2 q_c3 f_c3 q_c4 f_c4
    generalize wc = v12 at *
    obtain ⟨q_a0, f_a0, q_a1, f_a1, q_a2, f_a2, q_a3, f_a3, q_a4, f_a4⟩ := x_a.al
    obtain ⟨q_c0, f_c0, q_c1, f_c1, q_c2, f_c2, q_c3, f_c3, q_c4, f_c4⟩ := x_c.al
    obtain ⟨q_o0, f_o0, q_o1, f_o1, q_o2, f_o2, q_o3, f_o3, q_o4, f_o4⟩ := x_o.al
    go_upto_region 8 with fail
    have hv := Below.refl v12.heap.size v12
    have l_a_t := x_a.lt
    have l_c_t := x_c.lt
    have l_o_t := x_o.lt
    go_cut [11] (fun s9 wx => LxNew v12 M (H - 1) Q1 200 201 s9 wx)
    case first =>
      go_region_held3 (fun w' => w'.cell? ⟨v5.heap.size, 0, none⟩ = some (.bool (ngB M)) ∧ w'.cell? ⟨v5.heap.size, 1, none⟩ = some (.slice A5 n5 c5) ∧ w'.cell? ⟨v5.heap.size, 2, none⟩ = some (.bool (ngB H)) ∧ w'.cell? ⟨v5.heap.size, 3, none⟩ = some (.slice A6 n6 c6) ∧ w'.cell? ⟨v5.heap.size, 4, none⟩ = some (.int .i64 Q1))
        (first | (with_reducible exact ⟨x_c.c0, x_c.c1, x_c.c2, x_c.c3, x_c.c4⟩) | (with_reducible exact ⟨(x_c.alloc _).c0, (x_c.alloc _).c1, (x_c.alloc _).c2, (x_c.alloc _).c3, (x_c.alloc _).c4⟩) | (with_reducible exact ⟨(x_c.asideL (by omega)).c0, (x_c.asideL (by omega)).c1, (x_c.asideL (by omega)).c2, (x_c.asideL (by omega)).c3, (x_c.asideL (by omega)).c4⟩) | (with_reducible exact ⟨((x_c.alloc _).asideL (by omega)).c0, ((x_c.alloc _).asideL (by omega)).c1, ((x_c.alloc _).asideL (by omega)).c2, ((x_c.alloc _).asideL (by omega)).c3, ((x_c.alloc _).asideL (by omega)).c4⟩) | go_keep)
        (first | (go_at_call 20; (with_reducible refine (ZOf_any 1 (by omega) (by omega)).mono ?_); rintro e v13 ⟨A7, n7, c7, rfl, zo, hb1⟩; replace hb1 := undrew hb1; (try replace x_t := x_t.keep hb1); replace hv := bthen hv hb1; have hvs_v13 := hv.size; replace x_a := x_a.keep hb1; replace x_c := x_c.keep hb1; replace x_o := x_o.keep hb1; replace hT := hT.keep hb1; replace za := za.keep hb1; replace zb := zb.keep hb1; replace zc := zc.keep hb1; replace zd := zd.keep hb1; replace z1_o := z1_o.keep hb1; replace z2_o := z2_o.keep hb1; replace hb := bthen hb hb1; clear hb1; clear q_a0 f_a0 q_a1 f_a1 q_a2 f_a2 q_a3 f_a3 q_a4 f_a4; obtain ⟨q_a0, f_a0, q_a1, f_a1, q_a2, f_a2, q_a3, f_a3, q_a4, f_a4⟩ := x_a.al; clear q_c0 f_c0 q_c1 f_c1 q_c2 f_c2 q_c3 f_c3 q_c4 f_c4; obtain ⟨q_c0, f_c0, q_c1, f_c1, q_c2, f_c2, q_c3, f_c3, q_c4, f_c4⟩ := x_c.al; clear q_o0 f_o0 q_o1 f_o1 q_o2 f_o2 q_o3 f_o3 q_o4 f_o4; obtain ⟨q_o0, f_o0, q_o1, f_o1, q_o2, f_o2, q_o3, f_o3, q_o4, f_o4⟩ := x_o.al; (try (have q_t0 := x_t.c0; have f_t0 := x_t.fr 0; have q_t1 := x_t.c1; have f_t1 := x_t.fr 1; have q_t2 := x_t.c2; have f_t2 := x_t.fr 2; have q_t3 := x_t.c3; have f_t3 := x_t.fr 3; have q_t4 := x_t.c4; have f_t4 := x_t.fr 4))) | (go_at_call 20; (with_reducible refine (ZOf_any 1 (by omega) (by omega)).mono ?_); rintro e v13 ⟨A7, n7, c7, rfl, zo, hb1⟩; replace hb1 := undrew hb1; have x_t := (Lx.new v12 false none 0 0 false none 0 0 0).keep hb1; replace hb1 := bthen (below_alloc v12 (.cells #[.bool false, .slice none 0 0, .bool false, .slice none 0 0, .int .i64 0] 26)) hb1; replace hv := bthen hv hb1; have hvs_v13 := hv.size; replace x_a := x_a.keep hb1; replace x_c := x_c.keep hb1; replace x_o := x_o.keep hb1; replace hT := hT.keep hb1; replace za := za.keep hb1; replace zb := zb.keep hb1; replace zc := zc.keep hb1; replace zd := zd.keep hb1; replace z1_o := z1_o.keep hb1; replace z2_o := z2_o.keep hb1; replace hb := bthen hb hb1; clear hb1; clear q_a0 f_a0 q_a1 f_a1 q_a2 f_a2 q_a3 f_a3 q_a4 f_a4; obtain ⟨q_a0, f_a0, q_a1, f_a1, q_a2, f_a2, q_a3, f_a3, q_a4, f_a4⟩ := x_a.al; clear q_c0 f_c0 q_c1 f_c1 q_c2 f_c2 q_c3 f_c3 q_c4 f_c4; obtain ⟨q_c0, f_c0, q_c1, f_c1, q_c2, f_c2, q_c3, f_c3, q_c4, f_c4⟩ := x_c.al; clear q_o0 f_o0 q_o1 f_o1 q_o2 f_o2 q_o3 f_o3 q_o4 f_o4; obtain ⟨q_o0, f_o0, q_o1, f_o1, q_o2, f_o2, q_o3, f_o3, q_o4, f_o4⟩ := x_o.al; (try (have q_t0 := x_t.c0; have f_t0 := x_t.fr 0; have q_t1 := x_t.c1; have f_t1 := x_t.fr 1; have q_t2 := x_t.c2; have f_t2 := x_t.fr 2; have q_t3 := x_t.c3; have f_t3 := x_t.fr 3; have q_t4 := x_t.c4; have f_t4 := x_t.fr 4))) | (go_at_call 21; (with_reducible refine (ZSub_any zd.zr zo.zr 201 (by omega) (by omega) (by omega)).mono ?_); rintro e v14 ⟨A8, n8, c8, rfl, zs, hb1⟩; (try replace x_t := x_t.keep hb1); replace hv := bthen hv hb1; have hvs_v14 := hv.size; replace x_a := x_a.keep hb1; replace x_c := x_c.keep hb1; replace x_o := x_o.keep hb1; replace hT := hT.keep hb1; replace za := za.keep hb1; replace zb := zb.keep hb1; replace zc := zc.keep hb1; replace zd := zd.keep hb1; replace z1_o := z1_o.keep hb1; replace z2_o := z2_o.keep hb1; replace zo := zo.keep hb1; replace hb := bthen hb hb1; clear hb1; clear q_a0 f_a0 q_a1 f_a1 q_a2 f_a2 q_a3 f_a3 q_a4 f_a4; obtain ⟨q_a0, f_a0, q_a1, f_a1, q_a2, f_a2, q_a3, f_a3, q_a4, f_a4⟩ := x_a.al; clear q_c0 f_c0 q_c1 f_c1 q_c2 f_c2 q_c3 f_c3 q_c4 f_c4; obtain ⟨q_c0, f_c0, q_c1, f_c1, q_c2, f_c2, q_c3, f_c3, q_c4, f_c4⟩ := x_c.al; clear q_o0 f_o0 q_o1 f_o1 q_o2 f_o2 q_o3 f_o3 q_o4 f_o4; obtain ⟨q_o0, f_o0, q_o1, f_o1, q_o2, f_o2, q_o3, f_o3, q_o4, f_o4⟩ := x_o.al; (try (have q_t0 := x_t.c0; have f_t0 := x_t.fr 0; have q_t1 := x_t.c1; have f_t1 := x_t.fr 1; have q_t2 := x_t.c2; have f_t2 := x_t.fr 2; have q_t3 := x_t.c3; have f_t3 := x_t.fr 3; have q_t4 := x_t.c4; have f_t4 := x_t.fr 4))) | (go_at_call 21; (with_reducible refine (ZSub_any (zd.keep (below_alloc v13 (.cells #[.bool false, .slice none 0 0, .bool false, .slice none 0 0, .int .i64 0] 26))).zr (zo.keep (below_alloc v13 (.cells #[.bool false, .slice none 0 0, .bool false, .slice none 0 0, .int .i64 0] 26))).zr 201 (by omega) (by omega) (by omega)).mono ?_); rintro e v14 ⟨A8, n8, c8, rfl, zs, hb1⟩; have x_t := (Lx.new v13 false none 0 0 false none 0 0 0).keep hb1; replace hb1 := bthen (below_alloc v13 (.cells #[.bool false, .slice none 0 0, .bool false, .slice none 0 0, .int .i64 0] 26)) hb1; replace hv := bthen hv hb1; have hvs_v14 := hv.size; replace x_a := x_a.keep hb1; replace x_c := x_c.keep hb1; replace x_o := x_o.keep hb1; replace hT := hT.keep hb1; replace za := za.keep hb1; replace zb := zb.keep hb1; replace zc := zc.keep hb1; replace zd := zd.keep hb1; replace z1_o := z1_o.keep hb1; replace z2_o := z2_o.keep hb1; replace zo := zo.keep hb1; replace hb := bthen hb hb1; clear hb1; clear q_a0 f_a0 q_a1 f_a1 q_a2 f_a2 q_a3 f_a3 q_a4 f_a4; obtain ⟨q_a0, f_a0, q_a1, f_a1, q_a2, f_a2, q_a3, f_a3, q_a4, f_a4⟩ := x_a.al; clear q_c0 f_c0 q_c1 f_c1 q_c2 f_c2 q_c3 f_c3 q_c4 f_c4; obtain ⟨q_c0, f_c0, q_c1, f_c1, q_c2, f_c2, q_c3, f_c3, q_c4, f_c4⟩ := x_c.al; clear q_o0 f_o0 q_o1 f_o1 q_o2 f_o2 q_o3 f_o3 q_o4 f_o4; obtain ⟨q_o0, f_o0, q_o1, f_o1, q_o2, f_o2, q_o3, f_o3, q_o4, f_o4⟩ := x_o.al; (try (have q_t0 := x_t.c0; have f_t0 := x_t.fr 0; have q_t1 := x_t.c1; have f_t1 := x_t.fr 1; have q_t2 := x_t.c2; have f_t2 := x_t.fr 2; have q_t3 := x_t.c3; have f_t3 := x_t.fr 3; have q_t4 := x_t.c4; have f_t4 := x_t.fr 4))))
      all_goals go_wp2_with fail
      all_goals go_meet
      all_goals first | (with_reducible exact LxNew.new hv zc.zr zs.zr) | (with_reducible exact LxNew.put hv x_t (by omega) zc.zr zs.zr)
    case rest =>
      obtain ⟨g15, bx16, Ax16, nx16, cx16, by16, Ay16, ny16, cy16, rfl, x_t, z1_t, z2_t, e_t, hb1⟩ := hcut
      clear hv
      replace x_a := x_a.keep hb1
      replace x_c := x_c.keep hb1
      replace x_o := x_o.keep hb1
      replace hT := hT.keep hb1
      replace za := za.keep hb1
      replace zb := zb.keep hb1
      replace zc := zc.keep hb1
      replace zd := zd.keep hb1
      replace z1_o := z1_o.keep hb1
      replace z2_o := z2_o.keep hb1
      replace hb := bthen hb hb1
      clear hb1
      clear q_a0 f_a0 q_a1 f_a1 q_a2 f_a2 q_a3 f_a3 q_a4 f_a4; obtain ⟨q_a0, f_a0, q_a1, f_a1, q_a2, f_a2, q_a3, f_a3, q_a4, f_a4⟩ := x_a.al
      clear q_c0 f_c0 q_c1 f_c1 q_c2 f_c2 q_c3 f_c3 q_c4 f_c4; obtain ⟨q_c0, f_c0, q_c1, f_c1, q_c2, f_c2, q_c3, f_c3, q_c4, f_c4⟩ := x_c.al
      clear q_o0 f_o0 q_o1 f_o1 q_o2 f_o2 q_o3 f_o3 q_o4 f_o4; obtain ⟨q_o0, f_o0, q_o1, f_o1, q_o2, f_o2, q_o3, f_o3, q_o4, f_o4⟩ := x_o.al
      clear q_a0 f_a0 q_a1 f_a1 q_a2 f_a2 q_a3 f_a3 q_a4 f_a4 q_c0 f_c0 q_c1 f_c1 q_c2 f_c2 q_c3 f_c3 q_c4 f_c4 q_o0 f_o0 q_o1 f_o1 q_o2 f_o2 q_o3 f_o3 q_o4 f_o4
      generalize wc = v17 at *
      obtain ⟨q_a0, f_a0, q_a1, f_a1, q_a2, f_a2, q_a3, f_a3, q_a4, f_a4⟩ := x_a.al
      obtain ⟨q_c0, f_c0, q_c1, f_c1, q_c2, f_c2, q_c3, f_c3, q_c4, f_c4⟩ := x_c.al
      obtain ⟨q_o0, f_o0, q_o1, f_o1, q_o2, f_o2, q_o3, f_o3, q_o4, f_o4⟩ := x_o.al
      obtain ⟨q_t0, f_t0, q_t1, f_t1, q_t2, f_t2, q_t3, f_t3, q_t4, f_t4⟩ := x_t.al
      go_wp2_with fail
      with_reducible refine (Inside_any za zb z1_o z2_o (by omega) (by omega) (by omega) (by omega)).mono ?_
      rintro e v18 ⟨rfl, hb1⟩
      replace x_a := x_a.keep hb1
      replace x_c := x_c.keep hb1
      replace x_o := x_o.keep hb1
      replace x_t := x_t.keep hb1
      replace hT := hT.keep hb1
      replace za := za.keep hb1
      replace zb := zb.keep hb1
      replace zc := zc.keep hb1
      replace zd := zd.keep hb1
      replace z1_o := z1_o.keep hb1
      replace z2_o := z2_o.keep hb1
      replace z1_t := z1_t.keep hb1
      replace z2_t := z2_t.keep hb1
      replace hb := bthen hb hb1
      clear hb1
      clear q_a0 f_a0 q_a1 f_a1 q_a2 f_a2 q_a3 f_a3 q_a4 f_a4; obtain ⟨q_a0, f_a0, q_a1, f_a1, q_a2, f_a2, q_a3, f_a3, q_a4, f_a4⟩ := x_a.al
      clear q_c0 f_c0 q_c1 f_c1 q_c2 f_c2 q_c3 f_c3 q_c4 f_c4; obtain ⟨q_c0, f_c0, q_c1, f_c1, q_c2, f_c2, q_c3, f_c3, q_c4, f_c4⟩ := x_c.al
      clear q_o0 f_o0 q_o1 f_o1 q_o2 f_o2 q_o3 f_o3 q_o4 f_o4; obtain ⟨q_o0, f_o0, q_o1, f_o1, q_o2, f_o2, q_o3, f_o3, q_o4, f_o4⟩ := x_o.al
      clear q_t0 f_t0 q_t1 f_t1 q_t2 f_t2 q_t3 f_t3 q_t4 f_t4; obtain ⟨q_t0, f_t0, q_t1, f_t1, q_t2, f_t2, q_t3, f_t3, q_t4, f_t4⟩ := x_t.al
      rw [HI2.out]
      go_wp2_with fail
      with_reducible refine (Inside_any za zb z1_t z2_t (by omega) (by omega) (by omega) (by omega)).mono ?_
      rintro e v19 ⟨rfl, hb1⟩
      replace x_a := x_a.keep hb1
      replace x_c := x_c.keep hb1
      replace x_o := x_o.keep hb1
      replace x_t := x_t.keep hb1
      replace hT := hT.keep hb1
      replace za := za.keep hb1
      replace zb := zb.keep hb1
      replace zc := zc.keep hb1
      replace zd := zd.keep hb1
      replace z1_o := z1_o.keep hb1
      replace z2_o := z2_o.keep hb1
      replace z1_t := z1_t.keep hb1
      replace z2_t := z2_t.keep hb1
      replace hb := bthen hb hb1
      clear hb1
      clear q_a0 f_a0 q_a1 f_a1 q_a2 f_a2 q_a3 f_a3 q_a4 f_a4; obtain ⟨q_a0, f_a0, q_a1, f_a1, q_a2, f_a2, q_a3, f_a3, q_a4, f_a4⟩ := x_a.al
      clear q_c0 f_c0 q_c1 f_c1 q_c2 f_c2 q_c3 f_c3 q_c4 f_c4; obtain ⟨q_c0, f_c0, q_c1, f_c1, q_c2, f_c2, q_c3, f_c3, q_c4, f_c4⟩ := x_c.al
      clear q_o0 f_o0 q_o1 f_o1 q_o2 f_o2 q_o3 f_o3 q_o4 f_o4; obtain ⟨q_o0, f_o0, q_o1, f_o1, q_o2, f_o2, q_o3, f_o3, q_o4, f_o4⟩ := x_o.al
      clear q_t0 f_t0 q_t1 f_t1 q_t2 f_t2 q_t3 f_t3 q_t4 f_t4; obtain ⟨q_t0, f_t0, q_t1, f_t1, q_t2, f_t2, q_t3, f_t3, q_t4, f_t4⟩ := x_t.al
      rw [HI3.out]
      go_wp2_with fail
      with_reducible refine (Meets_any za zb zc.zr zd.zr (by omega) (by omega) (by omega) (by omega)).mono ?_
      rintro e v20 ⟨rfl, hb1⟩
      replace x_a := x_a.keep hb1
      replace x_c := x_c.keep hb1
      replace x_o := x_o.keep hb1
      replace x_t := x_t.keep hb1
      replace hT := hT.keep hb1
      replace za := za.keep hb1
      replace zb := zb.keep hb1
      replace zc := zc.keep hb1
      replace zd := zd.keep hb1
      replace z1_o := z1_o.keep hb1
      replace z2_o := z2_o.keep hb1
      replace z1_t := z1_t.keep hb1
      replace z2_t := z2_t.keep hb1
      replace hb := bthen hb hb1
      clear hb1
      clear q_a0 f_a0 q_a1 f_a1 q_a2 f_a2 q_a3 f_a3 q_a4 f_a4; obtain ⟨q_a0, f_a0, q_a1, f_a1, q_a2, f_a2, q_a3, f_a3, q_a4, f_a4⟩ := x_a.al
      clear q_c0 f_c0 q_c1 f_c1 q_c2 f_c2 q_c3 f_c3 q_c4 f_c4; obtain ⟨q_c0, f_c0, q_c1, f_c1, q_c2, f_c2, q_c3, f_c3, q_c4, f_c4⟩ := x_c.al
      clear q_o0 f_o0 q_o1 f_o1 q_o2 f_o2 q_o3 f_o3 q_o4 f_o4; obtain ⟨q_o0, f_o0, q_o1, f_o1, q_o2, f_o2, q_o3, f_o3, q_o4, f_o4⟩ := x_o.al
      clear q_t0 f_t0 q_t1 f_t1 q_t2 f_t2 q_t3 f_t3 q_t4 f_t4; obtain ⟨q_t0, f_t0, q_t1, f_t1, q_t2, f_t2, q_t3, f_t3, q_t4, f_t4⟩ := x_t.al
      rw [HM1.out]
      rcases Int.lt_or_le Q1 Q0 with hlt | hle
      · skip
        go_wp2
        go_ret
        exact ⟨rfl, hb⟩
      · have HI4 := Lib.hid (i4 hle)
        have hnl : ¬ Q1 < Q0 := by omega
        clear i4
        go_wp2_with fail
        with_reducible refine (Inside_any zc.zr zd.zr za zb (by omega) (by omega) (by omega) (by omega)).mono ?_
        rintro e v21 ⟨rfl, hb1⟩
        replace x_a := x_a.keep hb1
        replace x_c := x_c.keep hb1
        replace x_o := x_o.keep hb1
        replace x_t := x_t.keep hb1
        replace hT := hT.keep hb1
        replace za := za.keep hb1
        replace zb := zb.keep hb1
        replace zc := zc.keep hb1
        replace zd := zd.keep hb1
        replace z1_o := z1_o.keep hb1
        replace z2_o := z2_o.keep hb1
        replace z1_t := z1_t.keep hb1
        replace z2_t := z2_t.keep hb1
        replace hb := bthen hb hb1
        clear hb1
        clear q_a0 f_a0 q_a1 f_a1 q_a2 f_a2 q_a3 f_a3 q_a4 f_a4; obtain ⟨q_a0, f_a0, q_a1, f_a1, q_a2, f_a2, q_a3, f_a3, q_a4, f_a4⟩ := x_a.al
        clear q_c0 f_c0 q_c1 f_c1 q_c2 f_c2 q_c3 f_c3 q_c4 f_c4; obtain ⟨q_c0, f_c0, q_c1, f_c1, q_c2, f_c2, q_c3, f_c3, q_c4, f_c4⟩ := x_c.al
        clear q_o0 f_o0 q_o1 f_o1 q_o2 f_o2 q_o3 f_o3 q_o4 f_o4; obtain ⟨q_o0, f_o0, q_o1, f_o1, q_o2, f_o2, q_o3, f_o3, q_o4, f_o4⟩ := x_o.al
        clear q_t0 f_t0 q_t1 f_t1 q_t2 f_t2 q_t3 f_t3 q_t4 f_t4; obtain ⟨q_t0, f_t0, q_t1, f_t1, q_t2, f_t2, q_t3, f_t3, q_t4, f_t4⟩ := x_t.al
        rw [HI4.out]
        go_wp2
        go_ret
        exact ⟨rfl, hb⟩

end Go.Proofs.YtiigacddjihokaaDoor
