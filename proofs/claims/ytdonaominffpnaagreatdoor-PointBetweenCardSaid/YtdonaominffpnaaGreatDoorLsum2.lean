/-
 ball: Add, Sub; errors.
-/
import Derived.Test.YtdonaominffpnaaGreatDoorLcomb
import Derived.Shelf.Abstract
import Derived.Test.YtdonaominffpnaaGreatDoorEbox
namespace Go.Proofs.YtdonaominffpnaaGreatDoor
variable {A A2 A3 A4 : Option Addr} {U V X Y q : Int} {b b2 b3 b4 : Bool} {c c2 c3 c4 j j2 j3 j4 n n2 n3 n4 : Nat} {w : World}
set_option maxRecDepth 100000
set_option maxHeartbeats 4000000
set_option linter.unusedVariables false
open Go.RowKit
theorem ent_AddN : ∀ (args : Array Value) (w : World), (callFunc 260 args).run Tryz.prog w = .ok (.enter 260 args) w := enters_of Tryz.func260 (by kernel_rfl) rfl
theorem ent_SubN : ∀ (args : Array Value) (w : World), (callFunc 229 args).run Tryz.prog w = .ok (.enter 229 args) w := enters_of Tryz.func229 (by kernel_rfl) rfl
theorem ent_MulN : ∀ (args : Array Value) (w : World), (callFunc 249 args).run Tryz.prog w = .ok (.enter 249 args) w := enters_of Tryz.func249 (by kernel_rfl) rfl
theorem ent_DivN : ∀ (args : Array Value) (w : World), (callFunc 221 args).run Tryz.prog w = .ok (.enter 221 args) w := enters_of Tryz.func221 (by kernel_rfl) rfl
theorem LMul_any (h : Zr w b A n c X j) (h2 : Zr w b2 A2 n2 c2 Y j2) (h3 : Zr w b3 A3 n3 c3 U j3) (h4 : Zr w b4 A4 n4 c4 V j4) (hv : 0 ≤ q ∧ q ≤ 2048 ∧ X ≤ Y) (hv2 : U ≤ V) (J : Nat) (hj : j ≤ J) (hj2 : j2 ≤ J) (hj3 : j3 ≤ J) (hj4 : j4 ≤ J) (K : Nat) (hK : J + J + 128 ≤ K) (hK2 : K ≤ 1000000) :
  Calls Tryz.prog 248 #[.agg #[.bool b, .slice A n c, .bool b2, .slice A2 n2 c2, .int .i64 q], .agg #[.bool b3, .slice A3 n3 c3, .bool b4, .slice A4 n4 c4, .int .i64 q]] w (OuL w (mn4 (fun x y => flI (x * y) (-q)) X Y U V) (mx4 (fun x y => -flI (-(x * y)) (-q)) X Y U V) q K) := by
 obtain ⟨M0, hM0⟩ : ∃ M, mn4 (fun x y => flI (x * y) (-q)) X Y U V = M := ⟨_, rfl⟩
 obtain ⟨N0, hN0⟩ : ∃ N, mx4 (fun x y => -flI (-(x * y)) (-q)) X Y U V = N := ⟨_, rfl⟩
 rw [hM0, hN0]
 have HM0 := Lib.hid hM0; have HN0 := Lib.hid hN0; clear hM0 hN0
 have HV := Lib.hid hv; have HV2 := Lib.hid hv2; have hq : 0 ≤ q ∧ q ≤ 2048 := ⟨hv.1, hv.2.1⟩
 clear hv hv2
 go_enter Tryz.func248, Tryz.ntmps248
 go_wp2_with fail
 refine al3c fun v1 hb x_a x_d x_r => ?_
 replace x_a := Lx.of x_a; replace x_d := Lx.of x_d; replace x_r := Lx.of x_r
 obtain ⟨h, h2, h3, h4⟩ := mv4 hb h h2 h3 h4
 have q_a := x_a.al
 have q_d := x_d.al
 have q_r := x_r.al
 go_wp2_with fail
 have hcall := combine_any h h2 h3 h4 HV.out HV2.out (fid := 249) (caps := #[.pointer (some ⟨w.heap.size, 0, none⟩)]) ent_MulN (fun x y => flI (x * y) (-q)) (fun x y => -flI (-(x * y)) (-q)) J K hj hj2 hj3 hj4 (by omega) hK2 (fun w' b A n c b2 A2 n2 c2 x y hbw g1 g2 _ => by simpa using atMul_any g1 g2 (x_a.keep hbw) hq K (by omega) hK2)
 rw [HM0.out, HN0.out] at hcall
 have HCALL := Lib.hid hcall; clear hcall
 clear q_a
 clear q_d
 skip
 with_reducible refine (HCALL.out).mono ?_
 rintro e v2 ⟨A5, n5, c5, A6, n6, c6, rfl, z5, z6, hb1⟩
 obtain ⟨x_a, x_d, x_r, h, h2, h3, h4, hb⟩ := mv8 hb1 x_a x_d x_r h h2 h3 h4 hb
 clear hb1
 replace q_r := x_r.al
 clear HCALL
 go_wp2
 clear q_r
 refine x_r.st fun v3 hs hx => ?_
 obtain ⟨x_a, x_d, h, h2, h3, h4, z5, z6, hb⟩ := ms9 hs ⟨by omega, by omega, trivial, trivial, trivial, trivial, trivial, trivial, by omega⟩ x_a x_d h h2 h3 h4 z5 z6 hb
 replace x_r := hx; clear hx hs
 have q_r := x_r.al
 refine bodyPost_ret (v := .tuple #[.agg #[.bool (ngB M0), .slice A5 n5 c5, .bool (ngB N0), .slice A6 n6 c6, .int .i64 q], .int .i64 0]) (by simp [results, Tryz.results248, go_sem, q_r]) rfl ?_
 exact ⟨_, _, _, _, _, _, rfl, z5, z6, hb⟩
def hzB (U V : Int) : Bool := decide (U ≤ 0 ∧ 0 ≤ V)
theorem hasZero_any (h : Zr w b A n c X j) (h2 : Zr w b2 A2 n2 c2 Y j2) (hj : j ≤ 1000000) (hj2 : j2 ≤ 1000000) :
  Calls Tryz.prog 219 #[.agg #[.bool b, .slice A n c, .bool b2, .slice A2 n2 c2, .int .i64 q]] w fun e w' => e = .returned (.bool (hzB X Y)) ∧ Below w.heap.size w w' := by
 have i1 := sgnI_gt0 (X := X); have i2 := sgnI_lt0 (X := Y)
 obtain ⟨C1, hC1⟩ : ∃ C, sgnI X = C := ⟨_, rfl⟩
 obtain ⟨C2, hC2⟩ : ∃ C, sgnI Y = C := ⟨_, rfl⟩
 rw [hC1] at i1; rw [hC2] at i2
 have HC1 := Lib.hid hC1; have HC2 := Lib.hid hC2; clear hC1 hC2
 by_cases d1 : C1 ≤ 0
 ·by_cases d2 : 0 ≤ C2
  ·have HF : Hid (hzB X Y = true) := Lib.hid (by unfold hzB; exact decide_eq_true ⟨by omega, by omega⟩)
   clear i1 i2
   go_enter Tryz.func219, Tryz.ntmps219
   go_wp2_with fail
   refine al1c fun v1 hb x_a => ?_
   replace x_a := Lx.of x_a
   obtain ⟨h, h2⟩ := mv2 hb h h2
   have q_a := x_a.al
   go_wp2_with fail
   with_reducible refine (ZSign_any h hj).mono ?_
   rintro e v2 ⟨rfl, hb1⟩
   obtain ⟨x_a, h, h2, hb⟩ := mv4 hb1 x_a h h2 hb
   clear hb1
   replace q_a := x_a.al
   rw [HC1.out]
   go_wp2_with fail
   with_reducible refine (ZSign_any h2 hj2).mono ?_
   rintro e v3 ⟨rfl, hb1⟩
   obtain ⟨x_a, h, h2, hb⟩ := mv4 hb1 x_a h h2 hb
   clear hb1
   replace q_a := x_a.al
   rw [HC2.out]
   go_wp2
   go_ret
   exact ⟨qB_bool HF.out.symm, hb⟩
  ·have HF : Hid (hzB X Y = false) := Lib.hid (by unfold hzB; exact dec_no (by omega))
   clear i1 i2
   go_enter Tryz.func219, Tryz.ntmps219
   go_wp2_with fail
   refine al1c fun v1 hb x_a => ?_
   replace x_a := Lx.of x_a
   obtain ⟨h, h2⟩ := mv2 hb h h2
   have q_a := x_a.al
   go_wp2_with fail
   with_reducible refine (ZSign_any h hj).mono ?_
   rintro e v2 ⟨rfl, hb1⟩
   obtain ⟨x_a, h, h2, hb⟩ := mv4 hb1 x_a h h2 hb
   clear hb1
   replace q_a := x_a.al
   rw [HC1.out]
   go_wp2_with fail
   with_reducible refine (ZSign_any h2 hj2).mono ?_
   rintro e v3 ⟨rfl, hb1⟩
   obtain ⟨x_a, h, h2, hb⟩ := mv4 hb1 x_a h h2 hb
   clear hb1
   replace q_a := x_a.al
   rw [HC2.out]
   go_wp2
   go_ret
   exact ⟨qB_bool ((dec_no (p := 0 ≤ C2) (by omega)).trans HF.out.symm), hb⟩
 ·have HF : Hid (hzB X Y = false) := Lib.hid (by unfold hzB; exact dec_no (by omega))
  clear i1 i2
  go_enter Tryz.func219, Tryz.ntmps219
  go_wp2_with fail
  refine al1c fun v1 hb x_a => ?_
  replace x_a := Lx.of x_a
  obtain ⟨h, h2⟩ := mv2 hb h h2
  have q_a := x_a.al
  go_wp2_with fail
  with_reducible refine (ZSign_any h hj).mono ?_
  rintro e v2 ⟨rfl, hb1⟩
  obtain ⟨x_a, h, h2, hb⟩ := mv4 hb1 x_a h h2 hb
  clear hb1
  replace q_a := x_a.al
  rw [HC1.out]
  go_wp2
  go_ret
  exact ⟨qB_bool HF.out.symm, hb⟩
theorem LDiv_any (h : Zr w b A n c X j) (h2 : Zr w b2 A2 n2 c2 Y j2) (h3 : Zr w b3 A3 n3 c3 U j3) (h4 : Zr w b4 A4 n4 c4 V j4) (hv : 0 ≤ q ∧ q ≤ 2048 ∧ X ≤ Y) (hv2 : U ≤ V) (h0 : U ≠ 0 ∧ V ≠ 0 ∧ ¬ (U ≤ 0 ∧ 0 ≤ V)) (J : Nat) (hj : j ≤ J) (hj2 : j2 ≤ J) (hj3 : j3 ≤ J) (hj4 : j4 ≤ J) (K : Nat) (hK : J + 130 ≤ K) (hK2 : K ≤ 1000000) :
  Calls Tryz.prog 209 #[.agg #[.bool b, .slice A n c, .bool b2, .slice A2 n2 c2, .int .i64 q], .agg #[.bool b3, .slice A3 n3 c3, .bool b4, .slice A4 n4 c4, .int .i64 q]] w (OuL w (mn4 (fun x y => fdI (x * 2 ^ q.toNat) y) X Y U V) (mx4 (fun x y => cdI (x * 2 ^ q.toNat) y) X Y U V) q K) := by
 obtain ⟨M0, hM0⟩ : ∃ M, mn4 (fun x y => fdI (x * 2 ^ q.toNat) y) X Y U V = M := ⟨_, rfl⟩
 obtain ⟨N0, hN0⟩ : ∃ N, mx4 (fun x y => cdI (x * 2 ^ q.toNat) y) X Y U V = N := ⟨_, rfl⟩
 rw [hM0, hN0]
 have HM0 := Lib.hid hM0; have HN0 := Lib.hid hN0; clear hM0 hN0
 have HV := Lib.hid hv; have HV2 := Lib.hid hv2; have hq : 0 ≤ q ∧ q ≤ 2048 := ⟨hv.1, hv.2.1⟩
 have HMT := Lib.hid (mtB_yes (r := q) ⟨hv, ⟨hv.1, hv.2.1, hv2⟩, rfl⟩)
 have HH0 := Lib.hid h0
 have HZ : Hid (hzB U V = false) := Lib.hid (by unfold hzB; exact dec_no h0.2.2)
 clear h0
 clear hv hv2
 go_enter Tryz.func209, Tryz.ntmps209
 go_wp2_with fail
 refine al3c fun v1 hb x_a x_d x_r => ?_
 replace x_a := Lx.of x_a; replace x_d := Lx.of x_d; replace x_r := Lx.of x_r
 obtain ⟨h, h2, h3, h4⟩ := mv4 hb h h2 h3 h4
 have q_a := x_a.al
 have q_d := x_d.al
 have q_r := x_r.al
 go_wp2_with fail
 with_reducible refine (matching_any h h2 h3 h4 (by omega) (by omega) (by omega) (by omega)).mono ?_
 rintro e v2 ⟨rfl, hb1⟩
 obtain ⟨x_a, x_d, x_r, h, h2, h3, h4, hb⟩ := mv8 hb1 x_a x_d x_r h h2 h3 h4 hb
 clear hb1
 replace q_a := x_a.al
 replace q_d := x_d.al
 replace q_r := x_r.al
 rw [HMT.out]
 go_wp2_with fail
 with_reducible refine (hasZero_any h3 h4 (by omega) (by omega)).mono ?_
 rintro e v3 ⟨rfl, hb1⟩
 obtain ⟨x_a, x_d, x_r, h, h2, h3, h4, hb⟩ := mv8 hb1 x_a x_d x_r h h2 h3 h4 hb
 clear hb1
 replace q_a := x_a.al
 replace q_d := x_d.al
 replace q_r := x_r.al
 rw [HZ.out]
 go_wp2_with fail
 have hcall := combine_any h h2 h3 h4 HV.out HV2.out (fid := 221) (caps := #[.pointer (some ⟨w.heap.size, 0, none⟩)]) ent_DivN (fun x y => fdI (x * 2 ^ q.toNat) y) (fun x y => cdI (x * 2 ^ q.toNat) y) J K hj hj2 hj3 hj4 (by omega) hK2 (fun w' b A n c b2 A2 n2 c2 x y hbw g1 g2 hy => by simpa using atDiv_any g1 g2 (x_a.keep hbw) hq (by have := HH0.out; rcases hy with rfl | rfl; exact this.1; exact this.2.1) K (by omega) (by omega) hK2)
 rw [HM0.out, HN0.out] at hcall
 have HCALL := Lib.hid hcall; clear hcall
 clear q_a
 clear q_d
 skip
 with_reducible refine (HCALL.out).mono ?_
 rintro e v4 ⟨A5, n5, c5, A6, n6, c6, rfl, z5, z6, hb1⟩
 obtain ⟨x_a, x_d, x_r, h, h2, h3, h4, hb⟩ := mv8 hb1 x_a x_d x_r h h2 h3 h4 hb
 clear hb1
 replace q_r := x_r.al
 clear HCALL
 go_wp2
 clear q_r
 refine x_r.st fun v5 hs hx => ?_
 obtain ⟨x_a, x_d, h, h2, h3, h4, z5, z6, hb⟩ := ms9 hs ⟨by omega, by omega, trivial, trivial, trivial, trivial, trivial, trivial, by omega⟩ x_a x_d h h2 h3 h4 z5 z6 hb
 replace x_r := hx; clear hx hs
 have q_r := x_r.al
 refine bodyPost_ret (v := .tuple #[.agg #[.bool (ngB M0), .slice A5 n5 c5, .bool (ngB N0), .slice A6 n6 c6, .int .i64 q], .int .i64 0]) (by simp [results, Tryz.results209, go_sem, q_r]) rfl ?_
 exact ⟨_, _, _, _, _, _, rfl, z5, z6, hb⟩
end Go.Proofs.YtdonaominffpnaaGreatDoor
namespace Go.Proofs.YtdonaominffpnaaGreatDoor
variable {A A2 A3 A4 : Option Addr} {U V X Y q : Int} {b b2 b3 b4 : Bool} {c c2 c3 c4 j j2 j3 j4 n n2 n3 n4 : Nat} {w : World}
set_option maxRecDepth 100000
set_option maxHeartbeats 4000000
set_option linter.unusedVariables false
open Go.RowKit
theorem LAdd_any (h : Zr w b A n c X j) (h2 : Zr w b2 A2 n2 c2 Y j2) (h3 : Zr w b3 A3 n3 c3 U j3) (h4 : Zr w b4 A4 n4 c4 V j4) (hv : 0 ≤ q ∧ q ≤ 2048 ∧ X ≤ Y) (hv2 : U ≤ V) (J : Nat) (hj : j ≤ J) (hj2 : j2 ≤ J) (hj3 : j3 ≤ J) (hj4 : j4 ≤ J) (K : Nat) (hK : J + 1 ≤ K) (hK2 : K ≤ 1000000) :
  Calls Tryz.prog 259 #[.agg #[.bool b, .slice A n c, .bool b2, .slice A2 n2 c2, .int .i64 q], .agg #[.bool b3, .slice A3 n3 c3, .bool b4, .slice A4 n4 c4, .int .i64 q]] w (OuL w (mn4 (fun x y => x + y) X Y U V) (mx4 (fun x y => x + y) X Y U V) q K) := by
 obtain ⟨M0, hM0⟩ : ∃ M, mn4 (fun x y => x + y) X Y U V = M := ⟨_, rfl⟩
 obtain ⟨N0, hN0⟩ : ∃ N, mx4 (fun x y => x + y) X Y U V = N := ⟨_, rfl⟩
 rw [hM0, hN0]
 have HM0 := Lib.hid hM0; have HN0 := Lib.hid hN0; clear hM0 hN0
 have HV := Lib.hid hv; have HV2 := Lib.hid hv2; have hq : 0 ≤ q ∧ q ≤ 2048 := ⟨hv.1, hv.2.1⟩
 clear hv hv2
 go_enter Tryz.func259, Tryz.ntmps259
 go_wp2_with fail
 refine al3c fun v1 hb x_a x_d x_r => ?_
 replace x_a := Lx.of x_a; replace x_d := Lx.of x_d; replace x_r := Lx.of x_r
 obtain ⟨h, h2, h3, h4⟩ := mv4 hb h h2 h3 h4
 have q_a := x_a.al
 have q_d := x_d.al
 have q_r := x_r.al
 go_wp2_with fail
 have hcall := combine_any h h2 h3 h4 HV.out HV2.out (fid := 260) (caps := #[]) ent_AddN (fun x y => x + y) (fun x y => x + y) J K hj hj2 hj3 hj4 (by omega) hK2 (fun w' b A n c b2 A2 n2 c2 x y _ g1 g2 _ => by simpa using atAdd_any g1 g2 K (by omega) (by omega) hK2)
 rw [HM0.out, HN0.out] at hcall
 have HCALL := Lib.hid hcall; clear hcall
 clear q_a
 clear q_d
 skip
 with_reducible refine (HCALL.out).mono ?_
 rintro e v2 ⟨A5, n5, c5, A6, n6, c6, rfl, z5, z6, hb1⟩
 obtain ⟨x_a, x_d, x_r, h, h2, h3, h4, hb⟩ := mv8 hb1 x_a x_d x_r h h2 h3 h4 hb
 clear hb1
 replace q_r := x_r.al
 clear HCALL
 go_wp2
 clear q_r
 refine x_r.st fun v3 hs hx => ?_
 obtain ⟨x_a, x_d, h, h2, h3, h4, z5, z6, hb⟩ := ms9 hs ⟨by omega, by omega, trivial, trivial, trivial, trivial, trivial, trivial, by omega⟩ x_a x_d h h2 h3 h4 z5 z6 hb
 replace x_r := hx; clear hx hs
 have q_r := x_r.al
 refine bodyPost_ret (v := .tuple #[.agg #[.bool (ngB M0), .slice A5 n5 c5, .bool (ngB N0), .slice A6 n6 c6, .int .i64 q], .int .i64 0]) (by simp [results, Tryz.results259, go_sem, q_r]) rfl ?_
 exact ⟨_, _, _, _, _, _, rfl, z5, z6, hb⟩
theorem LSub_any (h : Zr w b A n c X j) (h2 : Zr w b2 A2 n2 c2 Y j2) (h3 : Zr w b3 A3 n3 c3 U j3) (h4 : Zr w b4 A4 n4 c4 V j4) (hv : 0 ≤ q ∧ q ≤ 2048 ∧ X ≤ Y) (hv2 : U ≤ V) (J : Nat) (hj : j ≤ J) (hj2 : j2 ≤ J) (hj3 : j3 ≤ J) (hj4 : j4 ≤ J) (K : Nat) (hK : J + 1 ≤ K) (hK2 : K ≤ 1000000) :
  Calls Tryz.prog 213 #[.agg #[.bool b, .slice A n c, .bool b2, .slice A2 n2 c2, .int .i64 q], .agg #[.bool b3, .slice A3 n3 c3, .bool b4, .slice A4 n4 c4, .int .i64 q]] w (OuL w (mn4 (fun x y => x - y) X Y U V) (mx4 (fun x y => x - y) X Y U V) q K) := by
 obtain ⟨M0, hM0⟩ : ∃ M, mn4 (fun x y => x - y) X Y U V = M := ⟨_, rfl⟩
 obtain ⟨N0, hN0⟩ : ∃ N, mx4 (fun x y => x - y) X Y U V = N := ⟨_, rfl⟩
 rw [hM0, hN0]
 have HM0 := Lib.hid hM0; have HN0 := Lib.hid hN0; clear hM0 hN0
 have HV := Lib.hid hv; have HV2 := Lib.hid hv2; have hq : 0 ≤ q ∧ q ≤ 2048 := ⟨hv.1, hv.2.1⟩
 clear hv hv2
 go_enter Tryz.func213, Tryz.ntmps213
 go_wp2_with fail
 refine al3c fun v1 hb x_a x_d x_r => ?_
 replace x_a := Lx.of x_a; replace x_d := Lx.of x_d; replace x_r := Lx.of x_r
 obtain ⟨h, h2, h3, h4⟩ := mv4 hb h h2 h3 h4
 have q_a := x_a.al
 have q_d := x_d.al
 have q_r := x_r.al
 go_wp2_with fail
 have hcall := combine_any h h2 h3 h4 HV.out HV2.out (fid := 229) (caps := #[]) ent_SubN (fun x y => x - y) (fun x y => x - y) J K hj hj2 hj3 hj4 (by omega) hK2 (fun w' b A n c b2 A2 n2 c2 x y _ g1 g2 _ => by simpa using atSub_any g1 g2 K (by omega) (by omega) hK2)
 rw [HM0.out, HN0.out] at hcall
 have HCALL := Lib.hid hcall; clear hcall
 clear q_a
 clear q_d
 skip
 with_reducible refine (HCALL.out).mono ?_
 rintro e v2 ⟨A5, n5, c5, A6, n6, c6, rfl, z5, z6, hb1⟩
 obtain ⟨x_a, x_d, x_r, h, h2, h3, h4, hb⟩ := mv8 hb1 x_a x_d x_r h h2 h3 h4 hb
 clear hb1
 replace q_r := x_r.al
 clear HCALL
 go_wp2
 clear q_r
 refine x_r.st fun v3 hs hx => ?_
 obtain ⟨x_a, x_d, h, h2, h3, h4, z5, z6, hb⟩ := ms9 hs ⟨by omega, by omega, trivial, trivial, trivial, trivial, trivial, trivial, by omega⟩ x_a x_d h h2 h3 h4 z5 z6 hb
 replace x_r := hx; clear hx hs
 have q_r := x_r.al
 refine bodyPost_ret (v := .tuple #[.agg #[.bool (ngB M0), .slice A5 n5 c5, .bool (ngB N0), .slice A6 n6 c6, .int .i64 q], .int .i64 0]) (by simp [results, Tryz.results213, go_sem, q_r]) rfl ?_
 exact ⟨_, _, _, _, _, _, rfl, z5, z6, hb⟩
end Go.Proofs.YtdonaominffpnaaGreatDoor
