/-
 point: Look.
-/
import Derived.Test.YtdonaominffpnaaGreatDoorPjudge
import Derived.Test.YtdonaominffpnaaGreatDoorGpat
import Derived.Test.YtdonaominffpnaaGreatDoorElem8
namespace Go.Proofs.YtdonaominffpnaaGreatDoor
set_option maxRecDepth 100000
set_option maxHeartbeats 4000000
set_option linter.unusedVariables false
open Go.RowKit
variable {b b2 b3 b4 : Bool} {A A2 A3 A4 : Option Addr} {n c n2 c2 n3 c3 n4 c4 j j2 : Nat} {X Y U V q e : Int} {p : Nat} {w : World}
theorem Look_zero (hT : Tab w) (f m : Int) (hm : 1 ≤ m ∧ m ≤ 128) (P R K : Int) (hAt : (∀ w A n c, Zn w A n c X 2 → Tab w → Calls Tryz.prog 50 #[.int .i64 f, .agg #[.bool (ngB X), .slice A n c, .int .i64 e], .int .i64 300] w (OuA w P R 300 K))) (hPR : P ≤ R) (hp : Pat p X e) (x : Int) (hx : x = p) (hz : zrB P R = true) :
  Calls Tryz.prog 15 #[.int .i64 f, .int .u64 x, .int .i64 m] w (LkPost w P R 300 K 0 0 0 0 true) := by
 have HNO : Hid (∀ w, Calls Tryz.prog 48 #[.int .u64 x] w fun en w' => en = .returned (.bool true) ∧ Below w.heap.size w w') := Lib.hid (fun w => by have k := Normal_any x p hx hp.1 (w := w); rw [hp.2.1] at k; exact k)
 have HVA : Hid (∀ w, Tab w → Calls Tryz.prog 49 #[.int .u64 x] w fun en w' => ∃ A n c, en = .returned (.tuple #[.agg #[.bool (ngB X), .slice A n c, .int .i64 e], .int .i64 0]) ∧ Zn w' A n c X 2 ∧ Below w.heap.size w w') := Lib.hid (fun w hT => by have k := Value_any x p hx hp.1 hT hp.2.2.1; unfold ValPost at k; rw [hp.2.2.2.1, hp.2.2.2.2] at k; exact k)
 have HAT := Lib.hid hAt; clear hAt
 have HSC := Lib.hid (fun w A A2 n n2 c c2 (h : Zn w A n c P 8) (h2 : Zn w A2 n2 c2 R 8) => Scale_none (q := 300) h.zr h2.zr ⟨by omega, by omega, hPR⟩ hz)
 clear hz hPR hp hx
 go_enter Tryz.func15, Tryz.ntmps15
 go_wp2_with fail
 refine al1c fun v1 hb x_r => ?_
 replace x_r := Ox.of x_r
 replace hT := Mv.mv hT hb
 have q_r := x_r.al
 clear q_r
 skip
 with_reducible refine (HNO.out _).mono ?_
 rintro e v2 ⟨rfl, hb1⟩
 obtain ⟨x_r, hT, hb⟩ := mv3 hb1 x_r hT hb
 clear hb1
 go_wp2_with fail
 with_reducible refine (HVA.out _ hT).mono ?_
 rintro e v3 ⟨A5, n5, c5, rfl, z5, hb1⟩
 obtain ⟨x_r, hT, hb⟩ := mv3 hb1 x_r hT hb
 clear hb1
 go_wp2_with fail
 have l_r_x := x_r.lt
 have e_x : w.heap.size ≤ v3.heap.size := hb.size
 refine al1c fun v4 hb1 x_x => ?_
 replace x_x := Dx.of x_x
 obtain ⟨x_r, hT, z5, hb⟩ := mv4 hb1 x_r hT z5 hb
 clear hb1
 have q_x := x_x.al
 skip
 with_reducible refine (HAT.out _ _ _ _ z5 hT).mono ?_
 rintro e v5 ⟨A7, n7, c7, A8, n8, c8, rfl, z7, z8, hb1⟩
 obtain ⟨x_r, x_x, hT, z5, hb⟩ := mv5 hb1 x_r x_x hT z5 hb
 clear hb1
 replace q_x := x_x.al
 have y_x := ((x_x.alloc (.cells #[.bool (ngB P), .slice A7 n7 c7, .bool (ngB R), .slice A8 n8 c8, .int .i64 300] 26))).al
 go_wp2_with fail
 clear y_x
 have l_r_ro := x_r.lt
 have l_x_ro := x_x.lt
 have e_ro : w.heap.size ≤ v5.heap.size := hb.size
 clear q_x
 refine al1c fun v6 hb1 x_ro => ?_
 replace x_ro := Lx.of x_ro
 obtain ⟨x_r, x_x, hT, z5, z7, z8, hb⟩ := mv7 hb1 x_r x_x hT z5 z7 z8 hb
 clear hb1
 have q_x := x_x.al
 have q_ro := x_ro.al
 skip
 with_reducible refine (HSC.out _ _ _ _ _ _ _ z7 z8).mono ?_
 rintro e v7 ⟨rfl, hb1⟩
 obtain ⟨x_r, x_x, x_ro, hT, z5, z7, z8, hb⟩ := mv8 hb1 x_r x_x x_ro hT z5 z7 z8 hb
 clear hb1
 replace q_x := x_x.al
 replace q_ro := x_ro.al
 have q_r := x_r.al
 go_wp2
 clear q_r q_x q_ro
 refine x_r.st fun v8 hs hx => ?_
 obtain ⟨x_x, x_ro, z5, z7, z8, hb⟩ := ms6 hs ⟨by omega, by omega, trivial, trivial, trivial, by omega⟩ x_x x_ro z5 z7 z8 hb
 replace x_r := hx; clear hx hs
 have q_r := x_r.al
 have q_x := x_x.al
 have q_ro := x_ro.al
 skip
 refine bodyPost_ret (v := .tuple #[.agg #[.bool (ngB P), .slice A7 n7 c7, .bool (ngB R), .slice A8 n8 c8, .int .i64 300, .int .i64 K, .int .i64 0, .int .i64 0, .bool false, .slice none 0 0, .bool false, .slice none 0 0, .bool true], .int .i64 0]) (by simp [results, Tryz.results15, go_sem, q_r]) rfl ?_
 exact ⟨_, _, _, _, _, _, none, 0, 0, none, 0, 0, rfl, z7, z8, Zn.nul _ _, Zn.nul _ _, hb⟩
theorem Look_some (hT : Tab w) (f m : Int) (hm : 1 ≤ m ∧ m ≤ 128) (P R K : Int) (hAt : (∀ w A n c, Zn w A n c X 2 → Tab w → Calls Tryz.prog 50 #[.int .i64 f, .agg #[.bool (ngB X), .slice A n c, .int .i64 e], .int .i64 300] w (OuA w P R 300 K))) (hPR : P ≤ R) (hp : Pat p X e) (x : Int) (hx : x = p) (hz : zrB P R = false) (n : Int) (hn : bl (nrI P R).natAbs - 1 - 300 = n) (q : Nat) (hn0 : 0 ≤ n) (hq : m + 160 = q) (P2 R2 K2 : Int) (hAt2 : (∀ w A n c, Zn w A n c X 2 → Tab w → Calls Tryz.prog 50 #[.int .i64 f, .agg #[.bool (ngB X), .slice A n c, .int .i64 e], .int .i64 (q : Nat)] w (OuA w P2 R2 (q : Nat) K2))) (hPR2 : P2 ≤ R2) (hz2 : zrB P2 R2 = false) (r : Int) (hr : bl (nrI P2 R2).natAbs - 1 - (q : Int) = r) (s : Nat) (hs : (q : Int) - 53 + r = s) (hs2 : s ≤ 2048) (hK : -1000000000 ≤ K2 ∧ K2 ≤ 1000000000) (E : Int) (hE : r + K2 = E) (L M : Int) (hL : gaL P2 R2 s = L ∧ gaM P2 R2 s = M) (t : Bool) (ht : decide ((bl L.natAbs : Int) ≤ s - m) = t) :
  Calls Tryz.prog 15 #[.int .i64 f, .int .u64 x, .int .i64 m] w (LkPost w P2 R2 q K2 E s L M t) := by
 have HNO : Hid (∀ w, Calls Tryz.prog 48 #[.int .u64 x] w fun en w' => en = .returned (.bool true) ∧ Below w.heap.size w w') := Lib.hid (fun w => by have k := Normal_any x p hx hp.1 (w := w); rw [hp.2.1] at k; exact k)
 have HVA : Hid (∀ w, Tab w → Calls Tryz.prog 49 #[.int .u64 x] w fun en w' => ∃ A n c, en = .returned (.tuple #[.agg #[.bool (ngB X), .slice A n c, .int .i64 e], .int .i64 0]) ∧ Zn w' A n c X 2 ∧ Below w.heap.size w w') := Lib.hid (fun w hT => by have k := Value_any x p hx hp.1 hT hp.2.2.1; unfold ValPost at k; rw [hp.2.2.2.1, hp.2.2.2.2] at k; exact k)
 have HAT := Lib.hid hAt; clear hAt
 have HSC := Lib.hid (fun w A A2 n2 n3 c c2 (h : Zn w A n2 c P 8) (h2 : Zn w A2 n3 c2 R 8) => Scale_some (q := 300) h.zr h2.zr ⟨by omega, by omega, hPR⟩ hz n hn)
 have HJU := Lib.hid (fun w A A2 n2 n3 c c2 (h : Zn w A n2 c P2 8) (h2 : Zn w A2 n3 c2 R2 8) => judge_any h h2 (q := (q : Int)) ⟨by omega, by omega, hPR2⟩ hz2 r hr s hs hs2 K2 m E hK hm hE L M hL t ht)
 have HAT2 := Lib.hid hAt2; clear hAt2
 skip
 have w1 : IntKind.i64.wrap (m + 160) = (q : Int) := by rw [wrap_in (by omega) (by omega)]; exact hq
 have w2 : IntKind.i64.wrap ((q : Int) - 0) = (q : Int) := by rw [wrap_in (by omega) (by omega)]; omega
 clear hz hPR hp hx hz2 hPR2 hr hs hs2 hK hE hL ht hn
 go_enter Tryz.func15, Tryz.ntmps15
 go_wp2_with fail
 refine al1c fun v1 hb x_r => ?_
 replace x_r := Ox.of x_r
 replace hT := Mv.mv hT hb
 have q_r := x_r.al
 clear q_r
 skip
 with_reducible refine (HNO.out _).mono ?_
 rintro e v2 ⟨rfl, hb1⟩
 obtain ⟨x_r, hT, hb⟩ := mv3 hb1 x_r hT hb
 clear hb1
 go_wp2_with fail
 with_reducible refine (HVA.out _ hT).mono ?_
 rintro e v3 ⟨A5, n5, c5, rfl, z5, hb1⟩
 obtain ⟨x_r, hT, hb⟩ := mv3 hb1 x_r hT hb
 clear hb1
 go_wp2_with fail
 have l_r_x := x_r.lt
 have e_x : w.heap.size ≤ v3.heap.size := hb.size
 refine al1c fun v4 hb1 x_x => ?_
 replace x_x := Dx.of x_x
 obtain ⟨x_r, hT, z5, hb⟩ := mv4 hb1 x_r hT z5 hb
 clear hb1
 have q_x := x_x.al
 skip
 with_reducible refine (HAT.out _ _ _ _ z5 hT).mono ?_
 rintro e v5 ⟨A7, n7, c7, A8, n8, c8, rfl, z7, z8, hb1⟩
 obtain ⟨x_r, x_x, hT, z5, hb⟩ := mv5 hb1 x_r x_x hT z5 hb
 clear hb1
 replace q_x := x_x.al
 have y_x := ((x_x.alloc (.cells #[.bool (ngB P), .slice A7 n7 c7, .bool (ngB R), .slice A8 n8 c8, .int .i64 300] 26))).al
 go_wp2_with fail
 clear y_x
 have l_r_ro := x_r.lt
 have l_x_ro := x_x.lt
 have e_ro : w.heap.size ≤ v5.heap.size := hb.size
 clear q_x
 refine al1c fun v6 hb1 x_ro => ?_
 replace x_ro := Lx.of x_ro
 obtain ⟨x_r, x_x, hT, z5, z7, z8, hb⟩ := mv7 hb1 x_r x_x hT z5 z7 z8 hb
 clear hb1
 have q_x := x_x.al
 have q_ro := x_ro.al
 skip
 with_reducible refine (HSC.out _ _ _ _ _ _ _ z7 z8).mono ?_
 rintro e v7 ⟨rfl, hb1⟩
 obtain ⟨x_r, x_x, x_ro, hT, z5, z7, z8, hb⟩ := mv8 hb1 x_r x_x x_ro hT z5 z7 z8 hb
 clear hb1
 replace q_x := x_x.al
 replace q_ro := x_ro.al
 go_wp2_with fail
 all_goals
  try rw [show (q : Int) - n = q by omega]
  skip
  with_reducible refine (HAT2.out _ _ _ _ z5 hT).mono ?_
  rintro e v8 ⟨A9, n9, c9, A10, n10, c10, rfl, z9, z10, hb1⟩
  obtain ⟨x_r, x_x, x_ro, hT, z5, hb⟩ := mv6 hb1 x_r x_x x_ro hT z5 hb
  clear hb1
  replace q_x := x_x.al
  replace q_ro := x_ro.al
  go_wp2_with fail
  have l_r_va := x_r.lt
  have e_va : w.heap.size ≤ v8.heap.size := hb.size
  refine al1c fun v9 hb1 x_va => ?_
  replace x_va := Lx.of x_va
  obtain ⟨x_r, z9, z10, hb⟩ := mv4 hb1 x_r z9 z10 hb
  clear hb1
  have q_va := x_va.al
  skip
  with_reducible refine (HJU.out _ _ _ _ _ _ _ z9 z10).mono ?_
  rintro e v10 ⟨A11, n11, c11, A12, n12, c12, A13, n13, c13, A14, n14, c14, rfl, z11, z12, z13, z14, hb1⟩
  obtain ⟨x_r, z9, z10, hb⟩ := mv4 hb1 x_r z9 z10 hb
  clear hb1
  have q_r := x_r.al
  go_wp2
  clear q_r
  refine x_r.st fun v11 hs hx => ?_
  obtain ⟨z11, z12, z13, z14, hb⟩ := ms5 hs ⟨trivial, trivial, trivial, trivial, by omega⟩ z11 z12 z13 z14 hb
  replace x_r := hx; clear hx hs
  have q_r := x_r.al
  skip
  refine bodyPost_ret (v := .tuple #[.agg #[.bool (ngB P2), .slice A11 n11 c11, .bool (ngB R2), .slice A12 n12 c12, .int .i64 (q : Int), .int .i64 K2, .int .i64 E, .int .i64 (s : Int), .bool (ngB L), .slice A13 n13 c13, .bool (ngB M), .slice A14 n14 c14, .bool t], .int .i64 0]) (by simp [results, Tryz.results15, go_sem, q_r]) rfl ?_
  exact ⟨_, _, _, _, _, _, _, _, _, _, _, _, rfl, z11, z12, z13, z14, hb⟩
end Go.Proofs.YtdonaominffpnaaGreatDoor
