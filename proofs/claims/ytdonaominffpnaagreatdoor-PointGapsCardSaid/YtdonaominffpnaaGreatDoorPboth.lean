/-
 point: what the program and the document say of a ball, together.
-/
import Derived.Test.YtdonaominffpnaaGreatDoorPscal
import Derived.Test.YtdonaominffpnaaGreatDoorRgap
import Derived.Test.YtdonaominffpnaaGreatDoorRgno
namespace Go.Proofs.YtdonaominffpnaaGreatDoor
set_option linter.unusedVariables false
open Go.RowKit
def GqPost (w : World) (L M E : Int) (e : Ending) (w' : World) : Prop := ∃ A n c A2 n2 c2, e = .returned (.tuple #[.agg #[.bool (ngB L), .slice A n c], .agg #[.bool (ngB M), .slice A2 n2 c2], .int .i64 E]) ∧ Zn w' A n c L 240 ∧ Zn w' A2 n2 c2 M 240 ∧ Below w.heap.size w w'
theorem gq_no {w : World} {e : Ending} {w' : World} (h : e = .returned (.tuple #[.agg #[.bool false, .slice none 0 0], .agg #[.bool false, .slice none 0 0], .int .i64 1]) ∧ Below w.heap.size w w') : GqPost w 0 0 1 e w' :=
 ⟨none, 0, 0, none, 0, 0, h.1, Zn.nul _ _, Zn.nul _ _, h.2⟩
theorem gap_both (X Y q s : Int) : ∃ L M E : Int, (∀ {b b2 : Bool} {A A2 : Option Addr} {n c n2 c2 : Nat} {w : World}, Zr w b A n c X 8 → Zr w b2 A2 n2 c2 Y 8 → Calls Tryz.prog 10 #[.agg #[.bool b, .slice A n c, .bool b2, .slice A2 n2 c2, .int .i64 q], .int .i64 s] w (GqPost w L M E)) ∧ (∀ {b b2 : Bool} {A A2 : Option Addr} {n c n2 c2 : Nat} {w : World}, Zr w b A n c X 8 → Zr w b2 A2 n2 c2 Y 8 → Calls Tryz.prog 11 #[.agg #[.bool b, .slice A n c, .bool b2, .slice A2 n2 c2, .int .i64 q], .int .i64 s] w (GqPost w L M E)) := by
 by_cases hv : (0 ≤ q ∧ q ≤ 2048 ∧ X ≤ Y) ∧ 0 ≤ s ∧ s ≤ 2048
 ·obtain ⟨t, rfl⟩ : ∃ t : Nat, s = (t : Int) := ⟨s.toNat, by omega⟩
  exact ⟨gaL X Y t, gaM X Y t, 0, fun h h2 => Gap_yes h h2 hv.1 t (by omega), fun h h2 => RGap_yes h h2 hv.1 t (by omega)⟩
 ·exact ⟨0, 0, 1, fun h h2 => (Gap_no h h2 s hv).mono fun _ _ => gq_no, fun h h2 => (RGap_no h h2 s hv).mono fun _ _ => gq_no⟩
theorem scale_both (X Y q : Int) : ∃ (K : Int) (B : Bool), (∀ {b b2 : Bool} {A A2 : Option Addr} {n c n2 c2 : Nat} {w : World}, Zr w b A n c X 8 → Zr w b2 A2 n2 c2 Y 8 → Calls Tryz.prog 13 #[.agg #[.bool b, .slice A n c, .bool b2, .slice A2 n2 c2, .int .i64 q]] w (fun e w' => e = .returned (.tuple #[.int .i64 K, .bool B]) ∧ Below w.heap.size w w')) ∧ (∀ {b b2 : Bool} {A A2 : Option Addr} {n c n2 c2 : Nat} {w : World}, Zr w b A n c X 8 → Zr w b2 A2 n2 c2 Y 8 → Calls Tryz.prog 14 #[.agg #[.bool b, .slice A n c, .bool b2, .slice A2 n2 c2, .int .i64 q]] w (fun e w' => e = .returned (.tuple #[.int .i64 K, .bool B]) ∧ Below w.heap.size w w')) := by
 by_cases hv : 0 ≤ q ∧ q ≤ 2048 ∧ X ≤ Y
 ·cases hz : zrB X Y with
  | true => exact ⟨0, false, fun h h2 => Scale_none h h2 hv hz, fun h h2 => RScale_none h h2 (Or.inr hz)⟩
  | false => exact ⟨_, true, fun h h2 => Scale_some h h2 hv hz _ rfl, fun h h2 => RScale_some h h2 hv hz _ rfl⟩
 ·exact ⟨0, false, fun h h2 => Scale_not h h2 hv, fun h h2 => RScale_none h h2 (Or.inl hv)⟩
end Go.Proofs.YtdonaominffpnaaGreatDoor
