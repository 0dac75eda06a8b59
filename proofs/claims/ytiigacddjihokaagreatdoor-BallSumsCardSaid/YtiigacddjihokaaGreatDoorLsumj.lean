/-
 ball: sums, differences, products and quotients, whichever they are.
-/
import Derived.Test.YtiigacddjihokaaGreatDoorLrdz
import Derived.Test.YtiigacddjihokaaGreatDoorLrdiv
import Derived.Test.YtiigacddjihokaaGreatDoorLsum
import Derived.Test.YtiigacddjihokaaGreatDoorLsum2
import Derived.Test.YtiigacddjihokaaGreatDoorLrs
namespace Go.Proofs.YtiigacddjihokaaGreatDoor
open Go.RowKit
set_option linter.unusedVariables false

theorem mn_add {X Y U V : Int} (h : X ≤ Y) (h2 : U ≤ V) : mn4 (fun x y => x + y) X Y U V = X + U ∧ mx4 (fun x y => x + y) X Y U V = Y + V := by
 simp only [mn4, mx4]
 omega
theorem mn_sub {X Y U V : Int} (h : X ≤ Y) (h2 : U ≤ V) : mn4 (fun x y => x - y) X Y U V = X - V ∧ mx4 (fun x y => x - y) X Y U V = Y - U := by
 simp only [mn4, mx4]
 omega
/-- The error of a quotient that is none. -/
def dxI (X Y q U V r : Int) : Int := if (0 ≤ q ∧ q ≤ 2048 ∧ X ≤ Y) ∧ (0 ≤ r ∧ r ≤ 2048 ∧ U ≤ V) ∧ q = r then 2 else 1
theorem LAdd_v {b b2 b3 b4 : Bool} {A A2 A3 A4 : Option Addr} {n c n2 c2 n3 c3 n4 c4 : Nat} {X Y U V q r : Int} {w : World} (h : Zr w b A n c X 8) (h2 : Zr w b2 A2 n2 c2 Y 8) (h3 : Zr w b3 A3 n3 c3 U 8) (h4 : Zr w b4 A4 n4 c4 V 8) (hc : (0 ≤ q ∧ q ≤ 2048 ∧ X ≤ Y) ∧ (0 ≤ r ∧ r ≤ 2048 ∧ U ≤ V) ∧ q = r) : Calls Tryz.prog 17 #[.agg #[.bool b, .slice A n c, .bool b2, .slice A2 n2 c2, .int .i64 q], .agg #[.bool b3, .slice A3 n3 c3, .bool b4, .slice A4 n4 c4, .int .i64 r]] w (OuL w (X + U) (Y + V) q 160) := by
 obtain ⟨hv, ⟨_, _, hv2⟩, rfl⟩ := hc
 have e := mn_add hv.2.2 hv2
 rw [← e.1, ← e.2]
 exact LAdd_any h h2 h3 h4 hv hv2 8 (Nat.le_refl _) (Nat.le_refl _) (Nat.le_refl _) (Nat.le_refl _) 160 (by omega) (by omega)
theorem RAdd_v {b b2 b3 b4 : Bool} {A A2 A3 A4 : Option Addr} {n c n2 c2 n3 c3 n4 c4 : Nat} {X Y U V q r : Int} {w : World} (h : Zr w b A n c X 8) (h2 : Zr w b2 A2 n2 c2 Y 8) (h3 : Zr w b3 A3 n3 c3 U 8) (h4 : Zr w b4 A4 n4 c4 V 8) (hc : (0 ≤ q ∧ q ≤ 2048 ∧ X ≤ Y) ∧ (0 ≤ r ∧ r ≤ 2048 ∧ U ≤ V) ∧ q = r) : Calls Tryz.prog 18 #[.agg #[.bool b, .slice A n c, .bool b2, .slice A2 n2 c2, .int .i64 q], .agg #[.bool b3, .slice A3 n3 c3, .bool b4, .slice A4 n4 c4, .int .i64 r]] w (OuL w (X + U) (Y + V) q 9) := by
 obtain ⟨hv, ⟨_, _, hv2⟩, rfl⟩ := hc
 exact RAdd_yes h h2 h3 h4 hv hv2 (Nat.le_refl _) (Nat.le_refl _) (Nat.le_refl _) (Nat.le_refl _)
theorem LSub_v {b b2 b3 b4 : Bool} {A A2 A3 A4 : Option Addr} {n c n2 c2 n3 c3 n4 c4 : Nat} {X Y U V q r : Int} {w : World} (h : Zr w b A n c X 8) (h2 : Zr w b2 A2 n2 c2 Y 8) (h3 : Zr w b3 A3 n3 c3 U 8) (h4 : Zr w b4 A4 n4 c4 V 8) (hc : (0 ≤ q ∧ q ≤ 2048 ∧ X ≤ Y) ∧ (0 ≤ r ∧ r ≤ 2048 ∧ U ≤ V) ∧ q = r) : Calls Tryz.prog 19 #[.agg #[.bool b, .slice A n c, .bool b2, .slice A2 n2 c2, .int .i64 q], .agg #[.bool b3, .slice A3 n3 c3, .bool b4, .slice A4 n4 c4, .int .i64 r]] w (OuL w (X - V) (Y - U) q 160) := by
 obtain ⟨hv, ⟨_, _, hv2⟩, rfl⟩ := hc
 have e := mn_sub hv.2.2 hv2
 rw [← e.1, ← e.2]
 exact LSub_any h h2 h3 h4 hv hv2 8 (Nat.le_refl _) (Nat.le_refl _) (Nat.le_refl _) (Nat.le_refl _) 160 (by omega) (by omega)
theorem RSub_v {b b2 b3 b4 : Bool} {A A2 A3 A4 : Option Addr} {n c n2 c2 n3 c3 n4 c4 : Nat} {X Y U V q r : Int} {w : World} (h : Zr w b A n c X 8) (h2 : Zr w b2 A2 n2 c2 Y 8) (h3 : Zr w b3 A3 n3 c3 U 8) (h4 : Zr w b4 A4 n4 c4 V 8) (hc : (0 ≤ q ∧ q ≤ 2048 ∧ X ≤ Y) ∧ (0 ≤ r ∧ r ≤ 2048 ∧ U ≤ V) ∧ q = r) : Calls Tryz.prog 20 #[.agg #[.bool b, .slice A n c, .bool b2, .slice A2 n2 c2, .int .i64 q], .agg #[.bool b3, .slice A3 n3 c3, .bool b4, .slice A4 n4 c4, .int .i64 r]] w (OuL w (X - V) (Y - U) q 9) := by
 obtain ⟨hv, ⟨_, _, hv2⟩, rfl⟩ := hc
 exact RSub_yes h h2 h3 h4 hv hv2 (Nat.le_refl _) (Nat.le_refl _) (Nat.le_refl _) (Nat.le_refl _)
theorem LMul_v {b b2 b3 b4 : Bool} {A A2 A3 A4 : Option Addr} {n c n2 c2 n3 c3 n4 c4 : Nat} {X Y U V q r : Int} {w : World} (h : Zr w b A n c X 8) (h2 : Zr w b2 A2 n2 c2 Y 8) (h3 : Zr w b3 A3 n3 c3 U 8) (h4 : Zr w b4 A4 n4 c4 V 8) (hc : (0 ≤ q ∧ q ≤ 2048 ∧ X ≤ Y) ∧ (0 ≤ r ∧ r ≤ 2048 ∧ U ≤ V) ∧ q = r) : Calls Tryz.prog 21 #[.agg #[.bool b, .slice A n c, .bool b2, .slice A2 n2 c2, .int .i64 q], .agg #[.bool b3, .slice A3 n3 c3, .bool b4, .slice A4 n4 c4, .int .i64 r]] w (OuL w (mn4 (fun x y => flI (x * y) (-q)) X Y U V) (mx4 (fun x y => -flI (-(x * y)) (-q)) X Y U V) q 160) := by
 obtain ⟨hv, ⟨_, _, hv2⟩, rfl⟩ := hc
 exact LMul_any h h2 h3 h4 hv hv2 8 (Nat.le_refl _) (Nat.le_refl _) (Nat.le_refl _) (Nat.le_refl _) 160 (by omega) (by omega)
theorem RMul_v {b b2 b3 b4 : Bool} {A A2 A3 A4 : Option Addr} {n c n2 c2 n3 c3 n4 c4 : Nat} {X Y U V q r : Int} {w : World} (h : Zr w b A n c X 8) (h2 : Zr w b2 A2 n2 c2 Y 8) (h3 : Zr w b3 A3 n3 c3 U 8) (h4 : Zr w b4 A4 n4 c4 V 8) (hc : (0 ≤ q ∧ q ≤ 2048 ∧ X ≤ Y) ∧ (0 ≤ r ∧ r ≤ 2048 ∧ U ≤ V) ∧ q = r) : Calls Tryz.prog 22 #[.agg #[.bool b, .slice A n c, .bool b2, .slice A2 n2 c2, .int .i64 q], .agg #[.bool b3, .slice A3 n3 c3, .bool b4, .slice A4 n4 c4, .int .i64 r]] w (OuL w (mn4 (fun x y => flI (x * y) (-q)) X Y U V) (mx4 (fun x y => -flI (-(x * y)) (-q)) X Y U V) q 160) := by
 obtain ⟨hv, ⟨_, _, hv2⟩, rfl⟩ := hc
 exact RMul_yes h h2 h3 h4 hv hv2 (Nat.le_refl _) (Nat.le_refl _) (Nat.le_refl _) (Nat.le_refl _)
theorem LDiv_v {b b2 b3 b4 : Bool} {A A2 A3 A4 : Option Addr} {n c n2 c2 n3 c3 n4 c4 : Nat} {X Y U V q r : Int} {w : World} (h : Zr w b A n c X 8) (h2 : Zr w b2 A2 n2 c2 Y 8) (h3 : Zr w b3 A3 n3 c3 U 8) (h4 : Zr w b4 A4 n4 c4 V 8) (hc : ((0 ≤ q ∧ q ≤ 2048 ∧ X ≤ Y) ∧ (0 ≤ r ∧ r ≤ 2048 ∧ U ≤ V) ∧ q = r) ∧ ¬ (U ≤ 0 ∧ 0 ≤ V)) : Calls Tryz.prog 23 #[.agg #[.bool b, .slice A n c, .bool b2, .slice A2 n2 c2, .int .i64 q], .agg #[.bool b3, .slice A3 n3 c3, .bool b4, .slice A4 n4 c4, .int .i64 r]] w (OuL w (mn4 (fun x y => fdI (x * 2 ^ q.toNat) y) X Y U V) (mx4 (fun x y => cdI (x * 2 ^ q.toNat) y) X Y U V) q 160) := by
 obtain ⟨⟨hv, ⟨_, _, hv2⟩, rfl⟩, h0⟩ := hc
 exact LDiv_any h h2 h3 h4 hv hv2 (⟨by omega, by omega, h0⟩) 8 (Nat.le_refl _) (Nat.le_refl _) (Nat.le_refl _) (Nat.le_refl _) 160 (by omega) (by omega)
theorem RDiv_v {b b2 b3 b4 : Bool} {A A2 A3 A4 : Option Addr} {n c n2 c2 n3 c3 n4 c4 : Nat} {X Y U V q r : Int} {w : World} (h : Zr w b A n c X 8) (h2 : Zr w b2 A2 n2 c2 Y 8) (h3 : Zr w b3 A3 n3 c3 U 8) (h4 : Zr w b4 A4 n4 c4 V 8) (hc : ((0 ≤ q ∧ q ≤ 2048 ∧ X ≤ Y) ∧ (0 ≤ r ∧ r ≤ 2048 ∧ U ≤ V) ∧ q = r) ∧ ¬ (U ≤ 0 ∧ 0 ≤ V)) : Calls Tryz.prog 24 #[.agg #[.bool b, .slice A n c, .bool b2, .slice A2 n2 c2, .int .i64 q], .agg #[.bool b3, .slice A3 n3 c3, .bool b4, .slice A4 n4 c4, .int .i64 r]] w (OuL w (mn4 (fun x y => fdI (x * 2 ^ q.toNat) y) X Y U V) (mx4 (fun x y => cdI (x * 2 ^ q.toNat) y) X Y U V) q 150) := by
 obtain ⟨⟨hv, ⟨_, _, hv2⟩, rfl⟩, h0⟩ := hc
 exact RDiv_yes h h2 h3 h4 hv hv2 h0 (Nat.le_refl _) (Nat.le_refl _) (Nat.le_refl _) (Nat.le_refl _)
theorem LDiv_n {b b2 b3 b4 : Bool} {A A2 A3 A4 : Option Addr} {n c n2 c2 n3 c3 n4 c4 : Nat} {X Y U V q r : Int} {w : World} (h : Zr w b A n c X 8) (h2 : Zr w b2 A2 n2 c2 Y 8) (h3 : Zr w b3 A3 n3 c3 U 8) (h4 : Zr w b4 A4 n4 c4 V 8) (hc : ¬ (((0 ≤ q ∧ q ≤ 2048 ∧ X ≤ Y) ∧ (0 ≤ r ∧ r ≤ 2048 ∧ U ≤ V) ∧ q = r) ∧ ¬ (U ≤ 0 ∧ 0 ≤ V))) : Calls Tryz.prog 23 #[.agg #[.bool b, .slice A n c, .bool b2, .slice A2 n2 c2, .int .i64 q], .agg #[.bool b3, .slice A3 n3 c3, .bool b4, .slice A4 n4 c4, .int .i64 r]] w (ErrL w (dxI X Y q U V r)) := by
 unfold dxI
 by_cases h0 : (0 ≤ q ∧ q ≤ 2048 ∧ X ≤ Y) ∧ (0 ≤ r ∧ r ≤ 2048 ∧ U ≤ V) ∧ q = r
 ·rw [if_pos h0]
  have hz : U ≤ 0 ∧ 0 ≤ V := Decidable.not_not.1 fun h => hc ⟨h0, h⟩
  obtain ⟨hv, ⟨_, _, hv2⟩, rfl⟩ := h0
  exact LDiv_zero h h2 h3 h4 hv hv2 hz (by omega) (by omega) (by omega) (by omega)
 ·rw [if_neg h0]
  exact LDiv_no h h2 h3 h4 h0 (by omega) (by omega) (by omega) (by omega)
theorem RDiv_n {b b2 b3 b4 : Bool} {A A2 A3 A4 : Option Addr} {n c n2 c2 n3 c3 n4 c4 : Nat} {X Y U V q r : Int} {w : World} (h : Zr w b A n c X 8) (h2 : Zr w b2 A2 n2 c2 Y 8) (h3 : Zr w b3 A3 n3 c3 U 8) (h4 : Zr w b4 A4 n4 c4 V 8) (hc : ¬ (((0 ≤ q ∧ q ≤ 2048 ∧ X ≤ Y) ∧ (0 ≤ r ∧ r ≤ 2048 ∧ U ≤ V) ∧ q = r) ∧ ¬ (U ≤ 0 ∧ 0 ≤ V))) : Calls Tryz.prog 24 #[.agg #[.bool b, .slice A n c, .bool b2, .slice A2 n2 c2, .int .i64 q], .agg #[.bool b3, .slice A3 n3 c3, .bool b4, .slice A4 n4 c4, .int .i64 r]] w (ErrL w (dxI X Y q U V r)) := by
 unfold dxI
 by_cases h0 : (0 ≤ q ∧ q ≤ 2048 ∧ X ≤ Y) ∧ (0 ≤ r ∧ r ≤ 2048 ∧ U ≤ V) ∧ q = r
 ·rw [if_pos h0]
  have hz : U ≤ 0 ∧ 0 ≤ V := Decidable.not_not.1 fun h => hc ⟨h0, h⟩
  obtain ⟨hv, ⟨_, _, hv2⟩, rfl⟩ := h0
  exact RDiv_zero h h2 h3 h4 hv hv2 hz (Nat.le_refl _) (Nat.le_refl _) (Nat.le_refl _) (Nat.le_refl _)
 ·rw [if_neg h0]
  exact RDiv_no h h2 h3 h4 h0 (Nat.le_refl _) (Nat.le_refl _) (Nat.le_refl _) (Nat.le_refl _)
end Go.Proofs.YtiigacddjihokaaGreatDoor
