/-
 The law PointGaps, as a call.
-/
import Derived.Test.YtdonaominffpnaaGreatDoorPshow
import Derived.Test.YtdonaominffpnaaGreatDoorLpart
import Derived.Test.YtdonaominffpnaaGreatDoorPboth
namespace Go.Proofs.YtdonaominffpnaaGreatDoor
set_option maxRecDepth 100000
set_option maxHeartbeats 4000000
set_option linter.unusedVariables false
open Go.RowKit
variable {b b2 b3 b4 : Bool} {A A2 A3 A4 : Option Addr} {n c n2 c2 n3 c3 n4 c4 j j2 : Nat} {X Y U V q e : Int} {w : World}
instance {v w : World} {A : Option Addr} {n c : Nat} {l : List Int} : Mv (Rd v v.heap.size A n c l) v w (Rd w w.heap.size A n c l) := ⟨fun h hb => h.go hb⟩
theorem PointGaps_any {b b2 : Bool} {A A2 : Option Addr} {n c n2 c2 : Nat} {q : Int} {l0 l1 : List Int} {w : World} (hT : Tab w) (g0 : Rd w w.heap.size A n c l0) (g1 : Rd w w.heap.size A2 n2 c2 l1) (s0 : Int) (hs0 : -9223372036854775808 ≤ s0 ∧ s0 ≤ 9223372036854775807) :
  Calls Tryz.prog 3 #[.agg #[.bool b, .slice A n c, .bool b2, .slice A2 n2 c2, .int .i64 q], .int .i64 s0] w fun e w' => e = .returned (.bool true) ∧ Below w.heap.size w w' := by
 go_enter Tryz.func3, Tryz.ntmps3
 go_wp2_with fail
 refine al1c fun v1 hb x_b => ?_
 replace x_b := Lx.of x_b
 obtain ⟨hT, g0, g1⟩ := mv3 hb hT g0 g1
 have q_b := x_b.al
 skip
 with_reducible refine (Pshown_any hT).mono ?_
 rintro e v2 ⟨rfl, hb1⟩
 obtain ⟨x_b, hT, g0, g1, hb⟩ := mv5 hb1 x_b hT g0 g1 hb
 clear hb1
 replace q_b := x_b.al
 go_wp2_with fail
 with_reducible refine (Lim_at g0 8 8 rfl (by omega)).mono ?_
 rintro e v3 ⟨E1, m1, k1, rfl, p1, h1, hb1⟩
 obtain ⟨x_b, g0, g1, hb⟩ := mv4 hb1 x_b g0 g1 hb
 clear hb1
 replace q_b := x_b.al
 obtain ⟨X, zX⟩ : ∃ X, Zr v3 b E1 m1 k1 X 8 := ⟨_, _, p1, rfl, h1⟩
 clear p1 h1
 go_wp2_with fail
 clear q_b
 refine x_b.stac fun v4 hs hx => ?_
 obtain ⟨g1, zX, hb⟩ := ms3 hs ⟨trivial, trivial, by omega⟩ g1 zX hb
 replace x_b := hx; clear hx hs
 have q_b := x_b.al
 skip
 with_reducible refine (Lim_at g1 8 8 rfl (by omega)).mono ?_
 rintro e v5 ⟨E2, m2, k2, rfl, p2, h2, hb1⟩
 obtain ⟨x_b, g1, zX, hb⟩ := mv4 hb1 x_b g1 zX hb
 clear hb1
 replace q_b := x_b.al
 obtain ⟨Y, zY⟩ : ∃ Y, Zr v5 b2 E2 m2 k2 Y 8 := ⟨_, _, p2, rfl, h2⟩
 clear p2 h2
 go_wp2_with fail
 clear q_b
 refine x_b.stbc fun v6 hs hx => ?_
 obtain ⟨zX, zY, hb⟩ := ms3 hs ⟨trivial, trivial, by omega⟩ zX zY hb
 replace x_b := hx; clear hx hs
 have q_b := x_b.al
 obtain ⟨L, M, E, hg, hr⟩ := gap_both X Y q s0
 obtain ⟨K, B, hs, ht⟩ := scale_both X Y q
 have HG := Lib.hid (fun w (h : Zr w b E1 m1 k1 X 8) (h2 : Zr w b2 E2 m2 k2 Y 8) => hg h h2); have HR := Lib.hid (fun w (h : Zr w b E1 m1 k1 X 8) (h2 : Zr w b2 E2 m2 k2 Y 8) => hr h h2); have HS := Lib.hid (fun w (h : Zr w b E1 m1 k1 X 8) (h2 : Zr w b2 E2 m2 k2 Y 8) => hs h h2); have HU := Lib.hid (fun w (h : Zr w b E1 m1 k1 X 8) (h2 : Zr w b2 E2 m2 k2 Y 8) => ht h h2); clear hg hr hs ht
 skip
 with_reducible refine (HG.out _ zX zY).mono ?_
 rintro e v7 ⟨A3, n3, c3, A4, n4, c4, rfl, z3, z4, hb1⟩
 obtain ⟨x_b, zX, zY, hb⟩ := mv4 hb1 x_b zX zY hb
 clear hb1
 replace q_b := x_b.al
 have y_b := (((x_b.alloc (.cells #[.bool (ngB L), .slice A3 n3 c3] 24)).alloc (.cells #[.bool (ngB M), .slice A4 n4 c4] 24))).al
 go_wp2_with fail
 clear y_b
 have l_b_x := x_b.lt
 have e_x : w.heap.size ≤ v7.heap.size := hb.size
 clear q_b
 refine al2c fun v8 hb1 x_x x_y => ?_
 replace x_x := Bx.of x_x; replace x_y := Bx.of x_y
 obtain ⟨x_b, zX, zY, z3, z4, hb⟩ := mv6 hb1 x_b zX zY z3 z4 hb
 clear hb1
 have q_b := x_b.al
 have q_x := x_x.al
 have q_y := x_y.al
 skip
 with_reducible refine (HR.out _ zX zY).mono ?_
 rintro e v9 ⟨A5, n5, c5, A6, n6, c6, rfl, z5, z6, hb1⟩
 obtain ⟨x_b, x_x, x_y, zX, zY, z3, z4, hb⟩ := mv8 hb1 x_b x_x x_y zX zY z3 z4 hb
 clear hb1
 replace q_b := x_b.al
 replace q_x := x_x.al
 replace q_y := x_y.al
 have y_b := (((x_b.alloc (.cells #[.bool (ngB L), .slice A5 n5 c5] 24)).alloc (.cells #[.bool (ngB M), .slice A6 n6 c6] 24))).al
 have y_x := (((x_x.alloc (.cells #[.bool (ngB L), .slice A5 n5 c5] 24)).alloc (.cells #[.bool (ngB M), .slice A6 n6 c6] 24))).al
 have y_y := (((x_y.alloc (.cells #[.bool (ngB L), .slice A5 n5 c5] 24)).alloc (.cells #[.bool (ngB M), .slice A6 n6 c6] 24))).al
 go_wp2_with fail
 clear y_b y_x y_y
 have l_b_u := x_b.lt
 have l_x_u := x_x.lt
 have l_y_u := x_y.lt
 have e_u : w.heap.size ≤ v9.heap.size := hb.size
 clear q_b q_x q_y
 refine al2c fun v10 hb1 x_u x_v => ?_
 replace x_u := Bx.of x_u; replace x_v := Bx.of x_v
 obtain ⟨x_b, x_x, x_y, zX, zY, z3, z4, z5, z6⟩ := mv9 hb1 x_b x_x x_y zX zY z3 z4 z5 z6
 replace hb := Mv.mv hb hb1
 clear hb1
 have q_b := x_b.al
 have q_x := x_x.al
 have q_y := x_y.al
 have q_u := x_u.al
 have q_v := x_v.al
 skip
 with_reducible refine (REqual_any z3 z5).mono ?_
 rintro e v11 ⟨rfl, hb1⟩
 obtain ⟨x_b, x_x, x_y, x_u, x_v, zX, zY, z3, z4⟩ := mv9 hb1 x_b x_x x_y x_u x_v zX zY z3 z4
 obtain ⟨z5, z6, hb⟩ := mv3 hb1 z5 z6 hb
 clear hb1
 replace q_b := x_b.al
 replace q_x := x_x.al
 replace q_y := x_y.al
 replace q_u := x_u.al
 replace q_v := x_v.al
 go_wp2_with fail
 with_reducible refine (REqual_any z4 z6).mono ?_
 rintro e v12 ⟨rfl, hb1⟩
 obtain ⟨x_b, x_x, x_y, x_u, x_v, zX, zY, z4, z6⟩ := mv9 hb1 x_b x_x x_y x_u x_v zX zY z4 z6
 replace hb := Mv.mv hb hb1
 clear hb1
 replace q_b := x_b.al
 replace q_x := x_x.al
 replace q_y := x_y.al
 replace q_u := x_u.al
 replace q_v := x_v.al
 go_wp2_with fail
 with_reducible refine (HS.out _ zX zY).mono ?_
 rintro e v13 ⟨rfl, hb1⟩
 obtain ⟨x_b, x_x, x_y, x_u, x_v, zX, zY, hb⟩ := mv8 hb1 x_b x_x x_y x_u x_v zX zY hb
 clear hb1
 replace q_b := x_b.al
 replace q_x := x_x.al
 replace q_y := x_y.al
 replace q_u := x_u.al
 replace q_v := x_v.al
 go_wp2_with fail
 with_reducible refine (HU.out _ zX zY).mono ?_
 rintro e v14 ⟨rfl, hb1⟩
 obtain ⟨x_b, x_x, x_y, x_u, x_v, zX, zY, hb⟩ := mv8 hb1 x_b x_x x_y x_u x_v zX zY hb
 clear hb1
 replace q_b := x_b.al
 replace q_x := x_x.al
 replace q_y := x_y.al
 replace q_u := x_u.al
 replace q_v := x_v.al
 go_wp2
 go_ret
 exact ⟨rfl, hb⟩
end Go.Proofs.YtdonaominffpnaaGreatDoor
