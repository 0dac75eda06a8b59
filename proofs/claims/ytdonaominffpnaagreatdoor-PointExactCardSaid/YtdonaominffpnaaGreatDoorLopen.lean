/-
 From an argument's reading to a ball.
-/
import Derived.Test.YtdonaominffpnaaGreatDoorPb
import Derived.ProofKit
import Derived.SizedLaws
import Derived.OpenShut
import Derived.Test.YtdonaominffpnaaGreatDoorPc
import Derived.Lib.SmallJoins
import Derived.Test.YtdonaominffpnaaGreatDoorPf
import Derived.Test.YtdonaominffpnaaGreatDoorCards
import Derived.Test.YtdonaominffpnaaGreatDoorTie
import Derived.LaidMore
import Derived.SevenTiedAt
import Derived.Test.YtdonaominffpnaaGreatDoorEbox
import Derived.Deep.Strs
namespace Go.Proofs.YtdonaominffpnaaGreatDoor
variable {n : Int}
set_option maxRecDepth 100000
set_option linter.unusedVariables false
section
open Go.ChangeShapes Go.WideShapes Go.ChangeAt Go.RowKit
theorem Tryz.own : ownKnob Tryz.prog.godebug = none := by kernel_rfl
theorem Tryz.laidOut : laidOutB Tryz.prog = true := by kernel_rfl
theorem Tryz.cells64 : Tryz.prog.cellsOf 36 = 1 := by kernel_rfl
theorem Tryz.bytes64 : Tryz.prog.bytesOf 36 = 8 := by kernel_rfl
theorem wf_lm (h : (Lit.int .u64 n).wf = true) : 0 ≤ n ∧ n < (Wd : Int) := by
 simp only [Lit.wf, Bool.and_eq_true, decide_eq_true_eq] at h
 have h1 : IntKind.u64.min = 0 := rfl
 have h2 : IntKind.u64.max = 18446744073709551615 := rfl
 rw [Wd_eq]; omega
theorem bounds_int (h : (Lit.int .i64 n).wf = true) : -9223372036854775808 ≤ n ∧ n ≤ 9223372036854775807 := by
 simp only [Lit.wf, Bool.and_eq_true, decide_eq_true_eq] at h
 have h1 : IntKind.i64.min = -9223372036854775808 := rfl
 have h2 : IntKind.i64.max = 9223372036854775807 := rfl
 omega
end
section
open Go.Joins Go.ChangeShapes Go.WideShapes Go.ChangeAt Go.RowKit
theorem Tryz.cellsInt : Tryz.prog.cellsOf 24 = 2 := by kernel_rfl
end
section
open Go.Joins Go.ChangeShapes Go.WideShapes Go.ChangeAt Go.RowKit
end
section
open Go.Joins Go.ChangeShapes Go.WideShapes Go.ChangeAt Go.RowKit
theorem Tryz.gTab : Tryz.prog.globalNamed "math/bits.deBruijn64tab" = some 0 := by kernel_rfl
theorem Tryz.tTab : (Tryz.prog.globals[0]?).map (·.type) = some 156 := by kernel_rfl
def laidT {H : Type} : List (String × DataW H) := [("math/bits.deBruijn64tab", Rows.laid_math_bits_deBruijn64tab)]
theorem door_met (os : Go.Os) (args : Array Value) : laidMetH Tryz.prog laidT ((World.doorLaid Tryz.prog 400 os).forCall (fun _ _ => 0) ⟨#[], args, []⟩).memory :=
 laidMetH_of_parts3 (fuel := 8) (laidMet_of_run' 8 (by kernel_rfl) (by kernel_rfl)) (by kernel_rfl) (by kernel_rfl)
theorem cells8 : Tryz.prog.cellsOf 5 = 1 := by kernel_rfl
theorem tab_of_laid {W : World} (h : laidMetH Tryz.prog laidT W) : Tab W := by
 rw [MakeChecks.laidMetH_plain _ _ _ (by kernel_rfl)] at h
 obtain ⟨ps, ⟨g0, t0, cs0, f0, p0, q0, hg0, ht0, hv0, hd0, _, _⟩, _, _⟩ := h
 obtain rfl := Option.some.inj (Tryz.gTab.symm.trans hg0)
 obtain rfl := Option.some.inj (Tryz.tTab.symm.trans ht0)
 obtain ⟨xs, m1, rfl, hx1, hlen, hn3, hel⟩ := DataW.trod_array Tryz.underlying156 hd0
 simp only [Prod.mk.injEq] at hx1
 have hL : (xs.map fun x => x.fst) = Lib.deBruijn64tab.map fun (n : Nat) => DataW.lit (.int .u8 (n : Int)) := by
  have h1 := hx1.1
  have h2 : (Rows.laid_math_bits_deBruijn64tab : DataW Unit) = DataW.agg (Lib.deBruijn64tab.map fun (n : Nat) => DataW.lit (.int .u8 (n : Int))) := by kernel_rfl
  rw [h2] at h1
  injection h1 with h1
  exact h1.symm
 have hlt : Lib.deBruijn64tab.length = 64 := by kernel_rfl
 refine ⟨fun j hj => ?_⟩
 have hj0 := hel j hj
 obtain ⟨x, hx⟩ : ∃ x, xs[j]? = some x := ⟨xs[j], List.getElem?_eq_getElem (by omega)⟩
 rw [hx] at hj0
 obtain ⟨k, e1, e2, _⟩ := DataW.trod_int Tryz.underlying5 hj0
 have h3 := congrArg (fun l => l[j]?) hL
 simp only [List.getElem?_map, hx, Option.map_some, e2] at h3
 rw [List.getElem?_eq_getElem (by omega)] at h3
 simp only [Option.map_some, Option.some.injEq, DataW.lit.injEq, Lit.int.injEq, true_and] at h3
 have h4 := World.var?_cell hg0 hv0 j
 rw [cells8, Nat.mul_one] at e1
 have h5 : cs0.toList[j]? = some (.int .u8 k) := by
  have := congrArg (fun l => l[0]?) e1
  simpa using this
 rw [Array.getElem?_toList] at h5
 rw [h5] at h4
 rw [h4, h3]
 simp [List.getD, hlt, hj]
end
end Go.Proofs.YtdonaominffpnaaGreatDoor
namespace Go.Proofs.YtdonaominffpnaaGreatDoor
variable {W : World}
set_option maxRecDepth 100000
set_option linter.unusedVariables false
open Go.Joins Go.ChangeShapes Go.WideShapes Go.ChangeAt Go.RowKit Go.Deep
theorem Tryz.cellsBall : Tryz.prog.cellsOf 26 = 5 := by kernel_rfl
theorem sized_lmag0 {H : Type} {ts : List TypeId} {ds : List (DataW H)} (h : (DataW.weightsEach Tryz.prog ts ds).all (· ≤ reachBytes) = true) {j : Nat} {d0 d1 d2 : DataW H} {elems spare : List (DataW H)} (ht : ts[j]? = some 26) (hd : ds[j]? = some (.agg [.agg [d0, .slice elems spare], d1, d2])) :
  (elems.length + spare.length) * Tryz.prog.bytesOf 36 ≤ reachBytes := by
 have := List.all_eq_true.1 h _ (DataW.weights_mem_each ht hd ((elems.length + spare.length) * Tryz.prog.bytesOf 36) (by simp [DataW.weights, DataW.weightsEach, Tryz.underlying26, Tryz.underlying24, Tryz.underlying22]))
 simpa using this
theorem sized_lmag1 {H : Type} {ts : List TypeId} {ds : List (DataW H)} (h : (DataW.weightsEach Tryz.prog ts ds).all (· ≤ reachBytes) = true) {j : Nat} {d0 d1 d2 : DataW H} {elems spare : List (DataW H)} (ht : ts[j]? = some 26) (hd : ds[j]? = some (.agg [d1, .agg [d0, .slice elems spare], d2])) :
  (elems.length + spare.length) * Tryz.prog.bytesOf 36 ≤ reachBytes := by
 have := List.all_eq_true.1 h _ (DataW.weights_mem_each ht hd ((elems.length + spare.length) * Tryz.prog.bytesOf 36) (by simp [DataW.weights, DataW.weightsEach, Tryz.underlying26, Tryz.underlying24, Tryz.underlying22]))
 simpa using this
theorem open_zin {H : Type} {enc : TypeId × Value → H} {m : Nat} {a0 a1 : Value} {y : DataW H × List MemPlace} (t0 : DataW.trod enc Tryz.prog W 0 (fun _ => true) true m 24 [a0, a1] = some y) (hlt : ∀ x ∈ y.2, x.block < W.heap.size)
  (hsz : ∀ d0 elems spare, y.1 = .agg [d0, .slice elems spare] → (elems.length + spare.length) * Tryz.prog.bytesOf 36 ≤ reachBytes) :
  ∃ b A n c l, a0 = .bool b ∧ a1 = .slice A n c ∧ Rd W W.heap.size A n c l := by
 obtain ⟨z0, z1, m2, hy, _, s0, s1⟩ := trod_struct2 Tryz.underlying24 t0
 have hcb : Tryz.prog.cellsOf 4 = 1 := by kernel_rfl
 have hcs64 : Tryz.prog.cellsOf 22 = 1 := by kernel_rfl
 simp only [hcb, hcs64, List.drop_zero, List.take_succ_cons, List.take_zero, List.drop_succ_cons] at s0 s1
 obtain ⟨b, hb0, _⟩ := DataW.trod_bool Tryz.underlying4 s0
 injection hb0 with hb0 _
 subst hb0
 subst hy
 rcases open_ints Tryz.underlying22 Tryz.underlying36 Tryz.cells64 s1 with ⟨hcs2, hx⟩ | ⟨a, len', cap', zs, hcs2, _, hl, hm, hz, hx, hcell, hwz⟩
 ·injection hcs2 with hcs2 _
  subst hcs2
  exact ⟨b, _, _, _, [], rfl, rfl, Rd.nil⟩
 ·injection hcs2 with hcs2 _
  subst hcs2
  subst hx
  simp only [if_true] at hz
  have hreach := hsz _ _ _ rfl
  rw [Tryz.bytes64] at hreach
  simp only [lits, List.length_map, List.length_take, List.length_drop, reachBytes] at hreach
  have hzl : (zs.take len').length = len' := by simp; omega
  refine ⟨b, _, _, _, zs.take len', rfl, rfl, hzl, hl, by omega, fun x hx => wf_lm (hwz x (List.mem_of_mem_take hx)), fun hn => ?_⟩
  obtain ⟨b1, off, spot⟩ := a
  have hspot : spot = none := by simpa [Addr.add] using World.cell?_spot (hcell 0 (by omega))
  subst hspot
  have hbW : b1 < W.heap.size := hlt (.cell b1 off) (by rw [List.mem_append]; exact .inr (MemPlace.mem_row.2 ⟨0, by omega, by simp⟩))
  refine ⟨b1, off, rfl, hbW, fun k hk => ?_⟩
  have hk2 : k < zs.length := by omega
  rw [← add_plain, hcell k hk2, List.getElem_take]
  simp [List.getD, List.getElem?_eq_getElem hk2]
theorem open_l {H : Type} {enc : TypeId × Value → H} {base : Nat} {v : Value} {d : DataW H} {ps : List MemPlace} (hok : Value.okWide Tryz.prog W .any base 26 v)
  (h : DataW.Trod enc Tryz.prog W 0 (fun _ => true) true 26 v d ps) (hlt : ∀ x ∈ ps, x.block < W.heap.size)
  (hsz0 : ∀ d0 d1 d2 elems spare, d = .agg [.agg [d0, .slice elems spare], d1, d2] → (elems.length + spare.length) * Tryz.prog.bytesOf 36 ≤ reachBytes)
  (hsz1 : ∀ d0 d1 d2 elems spare, d = .agg [d1, .agg [d0, .slice elems spare], d2] → (elems.length + spare.length) * Tryz.prog.bytesOf 36 ≤ reachBytes) :
  ∃ b A n c l b2 A2 n2 c2 l2 e, v = .agg #[.bool b, .slice A n c, .bool b2, .slice A2 n2 c2, .int .i64 e] ∧ Rd W W.heap.size A n c l ∧ Rd W W.heap.size A2 n2 c2 l2 ∧ (-9223372036854775808 ≤ e ∧ e ≤ 9223372036854775807) := by
 obtain ⟨cs, rfl, hcs⟩ := okWide_struct Tryz.underlying26 hok
 have hc5 : cs.size = 5 := hcs.trans Tryz.cellsBall
 obtain ⟨fuel, hf⟩ := h
 obtain ⟨y0, y1, y2, m, hx, _, t0, t1, t2⟩ := trod_struct3 Tryz.underlying26 hf
 simp only [Prod.mk.injEq] at hx
 obtain ⟨rfl, rfl⟩ := hx
 obtain ⟨a0, a1, a2, a3, a4, rfl⟩ : ∃ a0 a1 a2 a3 a4, cs = #[a0, a1, a2, a3, a4] := by
  match cs, hc5 with
  | ⟨[a0, a1, a2, a3, a4]⟩, _ => exact ⟨a0, a1, a2, a3, a4, rfl⟩
 have hcI : Tryz.prog.cellsOf 24 = 2 := Tryz.cellsInt
 have hc1 : Tryz.prog.cellsOf 3 = 1 := by kernel_rfl
 simp only [Value.cells, hcI, hc1, List.drop_zero, List.take_succ_cons, List.take_zero, List.drop_succ_cons] at t0 t1 t2
 obtain ⟨e, he1, he2, hwf⟩ := DataW.trod_int Tryz.underlying3 t2
 injection he1 with he1 _
 subst he1
 obtain ⟨b, A, n, c, l, rfl, rfl, r0⟩ := open_zin t0 (fun x hx => hlt x (by simp [hx])) (fun d0 el sp hd => hsz0 d0 y1.1 y2.1 el sp (by rw [hd]))
 obtain ⟨b2, A2, n2, c2, l2, rfl, rfl, r1⟩ := open_zin t1 (fun x hx => hlt x (by simp [hx])) (fun d0 el sp hd => hsz1 d0 y0.1 y2.1 el sp (by rw [hd]))
 exact ⟨_, _, _, _, _, _, _, _, _, _, _, rfl, r0, r1, bounds_int hwf⟩
end Go.Proofs.YtdonaominffpnaaGreatDoor
