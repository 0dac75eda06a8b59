/-
  The law DyadBetween holds: for every input the call returns true, and each argument reads afterwards as it read before; the table of math/bits reads as the program's text lays it (the card ties it). No other condition.
-/
import Derived.Test.YtcoidcbbdibnaaaDoorSmall
import Derived.ProofKit
import Derived.SizedLaws
import Derived.OpenShut
import Derived.Test.YtcoidcbbdibnaaaDoorZint
import Derived.Lib.SmallJoins
import Derived.Test.YtcoidcbbdibnaaaDoorDint
import Derived.Test.YtcoidcbbdibnaaaDoorCards
import Derived.Test.YtcoidcbbdibnaaaDoorTie
import Derived.LaidMore
import Derived.SevenTiedAt
import Derived.Test.YtcoidcbbdibnaaaDoorDvd
import Derived.Test.YtcoidcbbdibnaaaDoorDshown
import Derived.Test.YtcoidcbbdibnaaaDoorDsmall
namespace Go.Proofs.YtcoidcbbdibnaaaDoor
section
open Go.ChangeShapes Go.WideShapes Go.ChangeAt Go.RowKit
set_option linter.unusedVariables false

theorem Tryd.own : ownKnob Tryd.prog.godebug = none := by kernel_rfl
theorem Tryd.laidOut : laidOutB Tryd.prog = true := by kernel_rfl
theorem Tryd.cells64 : Tryd.prog.cellsOf 31 = 1 := by kernel_rfl
theorem Tryd.bytes64 : Tryd.prog.bytesOf 31 = 8 := by kernel_rfl

theorem wf_lm {n : Int} (h : (Lit.int .u64 n).wf = true) : 0 ≤ n ∧ n < (Wd : Int) := by
  simp only [Lit.wf, Bool.and_eq_true, decide_eq_true_eq] at h
  have h1 : IntKind.u64.min = 0 := rfl
  have h2 : IntKind.u64.max = 18446744073709551615 := rfl
  rw [Wd_eq]; omega
theorem bounds_int {n : Int} (h : (Lit.int .i64 n).wf = true) : -9223372036854775808 ≤ n ∧ n ≤ 9223372036854775807 := by
  simp only [Lit.wf, Bool.and_eq_true, decide_eq_true_eq] at h
  have h1 : IntKind.i64.min = -9223372036854775808 := rfl
  have h2 : IntKind.i64.max = 9223372036854775807 := rfl
  omega

/-- A slice of limbs that came in. -/
theorem open_rd {H : Type} {enc : TypeId × Value → H} {W : World} {base : Nat} {v : Value} {d : DataW H} {ps : List MemPlace} (hok : Value.okWide Tryd.prog W .any base 22 v)
    (h : DataW.Trod enc Tryd.prog W 0 (fun _ => true) true 22 v d ps) (hlt : ∀ x ∈ ps, x.block < W.heap.size)
    (hsz : ∀ elems spare, d = .slice elems spare → (elems.length + spare.length) * Tryd.prog.bytesOf 31 ≤ reachBytes) : ∃ A n c l, v = .slice A n c ∧ Rd W W.heap.size A n c l := by
  obtain ⟨a0, len, cap, rfl⟩ := okWide_slice Tryd.underlying22 hok
  obtain ⟨fuel, hf⟩ := h
  rcases open_ints Tryd.underlying22 Tryd.underlying31 Tryd.cells64 hf with ⟨hcs, hx⟩ | ⟨a, len', cap', zs, hcs, _, hl, hm, hz, hx, hcell, hwz⟩
  · simp [Value.cells] at hcs
    obtain ⟨rfl, rfl, rfl⟩ := hcs
    exact ⟨_, _, _, [], rfl, Rd.nil⟩
  · simp [Value.cells] at hcs
    obtain ⟨rfl, rfl, rfl⟩ := hcs
    simp only [Prod.mk.injEq] at hx
    obtain ⟨rfl, rfl⟩ := hx
    simp only [if_true] at hz
    have hreach := hsz _ _ rfl
    rw [Tryd.bytes64] at hreach
    simp only [lits, List.length_map, List.length_take, List.length_drop, reachBytes] at hreach
    have hzl : (zs.take len).length = len := by simp; omega
    refine ⟨_, _, _, zs.take len, rfl, hzl, hl, by omega, fun x hx => wf_lm (hwz x (List.mem_of_mem_take hx)), fun hn => ?_⟩
    obtain ⟨b, off, spot⟩ := a
    have hspot : spot = none := by simpa [Addr.add] using World.cell?_spot (hcell 0 (by omega))
    subst hspot
    have hbW : b < W.heap.size := hlt (.cell b off) (MemPlace.mem_row.2 ⟨0, by omega, by simp⟩)
    refine ⟨b, off, rfl, hbW, fun k hk => ?_⟩
    have hk2 : k < zs.length := by omega
    rw [← add_plain, hcell k hk2, List.getElem_take]
    simp [List.getD, List.getElem?_eq_getElem hk2]
end
end Go.Proofs.YtcoidcbbdibnaaaDoor
namespace Go.Proofs.YtcoidcbbdibnaaaDoor
section
open Go.Joins Go.ChangeShapes Go.WideShapes Go.ChangeAt Go.RowKit
set_option linter.unusedVariables false

theorem Tryd.cellsInt : Tryd.prog.cellsOf 24 = 2 := by kernel_rfl

theorem sized_mag {H : Type} {ts : List TypeId} {ds : List (DataW H)} (h : (DataW.weightsEach Tryd.prog ts ds).all (· ≤ reachBytes) = true) {j : Nat} {d0 : DataW H} {elems spare : List (DataW H)} (ht : ts[j]? = some 24) (hd : ds[j]? = some (.agg [d0, .slice elems spare])) :
    (elems.length + spare.length) * Tryd.prog.bytesOf 31 ≤ reachBytes := by
  have := List.all_eq_true.1 h _ (DataW.weights_mem_each ht hd ((elems.length + spare.length) * Tryd.prog.bytesOf 31) (by simp [DataW.weights, DataW.weightsEach, Tryd.underlying24, Tryd.underlying22]))
  simpa using this

/-- An integer that came in. -/
theorem open_z {H : Type} {enc : TypeId × Value → H} {W : World} {base : Nat} {v : Value} {d : DataW H} {ps : List MemPlace} (hok : Value.okWide Tryd.prog W .any base 24 v)
    (h : DataW.Trod enc Tryd.prog W 0 (fun _ => true) true 24 v d ps) (hlt : ∀ x ∈ ps, x.block < W.heap.size)
    (hsz : ∀ d0 elems spare, d = .agg [d0, .slice elems spare] → (elems.length + spare.length) * Tryd.prog.bytesOf 31 ≤ reachBytes) : ∃ b A n c l, v = .agg #[.bool b, .slice A n c] ∧ Rd W W.heap.size A n c l := by
  obtain ⟨v0, v1, y0, y1, m, rfl, rfl, rfl, t0, t1⟩ := open_agg2 Tryd.underlying24 (by kernel_rfl) Tryd.cellsInt hok h
  obtain ⟨b, hb0, _⟩ := DataW.trod_bool Tryd.underlying4 t0
  injection hb0 with hb0 _
  subst hb0
  rcases open_ints Tryd.underlying22 Tryd.underlying31 Tryd.cells64 t1 with ⟨hcs, hx⟩ | ⟨a, len', cap', zs, hcs, _, hl, hm, hz, hx, hcell, hwz⟩
  · injection hcs with hcs _
    subst hcs
    exact ⟨b, _, _, _, [], rfl, Rd.nil⟩
  · injection hcs with hcs _
    subst hcs
    subst hx
    simp only [if_true] at hz
    have hreach := hsz _ _ _ rfl
    rw [Tryd.bytes64] at hreach
    simp only [lits, List.length_map, List.length_take, List.length_drop, reachBytes] at hreach
    have hzl : (zs.take len').length = len' := by simp; omega
    refine ⟨b, _, _, _, zs.take len', rfl, hzl, hl, by omega, fun x hx => wf_lm (hwz x (List.mem_of_mem_take hx)), fun hn => ?_⟩
    obtain ⟨b1, off, spot⟩ := a
    have hspot : spot = none := by simpa [Addr.add] using World.cell?_spot (hcell 0 (by omega))
    subst hspot
    have hbW : b1 < W.heap.size := hlt (.cell b1 off) (by rw [List.mem_append]; exact .inr (MemPlace.mem_row.2 ⟨0, by omega, by simp⟩))
    refine ⟨b1, off, rfl, hbW, fun k hk => ?_⟩
    have hk2 : k < zs.length := by omega
    rw [← add_plain, hcell k hk2, List.getElem_take]
    simp [List.getD, List.getElem?_eq_getElem hk2]
end
end Go.Proofs.YtcoidcbbdibnaaaDoor
namespace Go.Proofs.YtcoidcbbdibnaaaDoor
section
open Go.Joins Go.ChangeShapes Go.WideShapes Go.ChangeAt Go.RowKit
set_option linter.unusedVariables false

theorem Tryd.cellsDyad : Tryd.prog.cellsOf 26 = 3 := by kernel_rfl
theorem sized_dmag {H : Type} {ts : List TypeId} {ds : List (DataW H)} (h : (DataW.weightsEach Tryd.prog ts ds).all (· ≤ reachBytes) = true) {j : Nat} {d0 d1 : DataW H} {elems spare : List (DataW H)} (ht : ts[j]? = some 26) (hd : ds[j]? = some (.agg [.agg [d0, .slice elems spare], d1])) :
    (elems.length + spare.length) * Tryd.prog.bytesOf 31 ≤ reachBytes := by
  have := List.all_eq_true.1 h _ (DataW.weights_mem_each ht hd ((elems.length + spare.length) * Tryd.prog.bytesOf 31) (by simp [DataW.weights, DataW.weightsEach, Tryd.underlying26, Tryd.underlying24, Tryd.underlying22]))
  simpa using this
/-- A dyad that came in. -/
theorem open_d {H : Type} {enc : TypeId × Value → H} {W : World} {base : Nat} {v : Value} {d : DataW H} {ps : List MemPlace} (hok : Value.okWide Tryd.prog W .any base 26 v)
    (h : DataW.Trod enc Tryd.prog W 0 (fun _ => true) true 26 v d ps) (hlt : ∀ x ∈ ps, x.block < W.heap.size)
    (hsz : ∀ d0 d1 elems spare, d = .agg [.agg [d0, .slice elems spare], d1] → (elems.length + spare.length) * Tryd.prog.bytesOf 31 ≤ reachBytes) :
    ∃ b A n c l e, v = .agg #[.bool b, .slice A n c, .int .i64 e] ∧ Rd W W.heap.size A n c l ∧ (-9223372036854775808 ≤ e ∧ e ≤ 9223372036854775807) := by
  obtain ⟨cs, rfl, hcs⟩ := okWide_struct Tryd.underlying26 hok
  have hc3 : cs.size = 3 := hcs.trans Tryd.cellsDyad
  obtain ⟨fuel, hf⟩ := h
  obtain ⟨y0, y1, m, hx, _, t0, t1⟩ := trod_struct2 Tryd.underlying26 hf
  simp only [Prod.mk.injEq] at hx
  obtain ⟨rfl, rfl⟩ := hx
  obtain ⟨a0, a1, a2, rfl⟩ : ∃ a0 a1 a2, cs = #[a0, a1, a2] := by
    match cs, hc3 with
    | ⟨[a0, a1, a2]⟩, _ => exact ⟨a0, a1, a2, rfl⟩
  have hcI : Tryd.prog.cellsOf 24 = 2 := Tryd.cellsInt
  have hc1 : Tryd.prog.cellsOf 3 = 1 := by kernel_rfl
  simp only [Value.cells, hcI, hc1, List.drop_zero, List.take_succ_cons, List.take_zero, List.drop_succ_cons] at t0 t1
  obtain ⟨e, he1, he2, hwf⟩ := DataW.trod_int Tryd.underlying3 t1
  obtain ⟨z0, z1, m2, hy, _, s0, s1⟩ := trod_struct2 Tryd.underlying24 t0
  have hcb : Tryd.prog.cellsOf 4 = 1 := by kernel_rfl
  have hcs64 : Tryd.prog.cellsOf 22 = 1 := by kernel_rfl
  simp only [hcb, hcs64, List.drop_zero, List.take_succ_cons, List.take_zero, List.drop_succ_cons] at s0 s1
  obtain ⟨b, hb0, _⟩ := DataW.trod_bool Tryd.underlying4 s0
  injection hb0 with hb0 _
  subst hb0
  injection he1 with he1 _
  subst he1
  subst hy
  have hbd := bounds_int hwf
  rcases open_ints Tryd.underlying22 Tryd.underlying31 Tryd.cells64 s1 with ⟨hcs2, hx⟩ | ⟨a, len', cap', zs, hcs2, _, hl, hm, hz, hx, hcell, hwz⟩
  · injection hcs2 with hcs2 _
    subst hcs2
    exact ⟨b, _, _, _, [], e, rfl, Rd.nil, hbd⟩
  · injection hcs2 with hcs2 _
    subst hcs2
    subst hx
    simp only [if_true] at hz
    have hreach := hsz _ _ _ _ rfl
    rw [Tryd.bytes64] at hreach
    simp only [lits, List.length_map, List.length_take, List.length_drop, reachBytes] at hreach
    have hzl : (zs.take len').length = len' := by simp; omega
    refine ⟨b, _, _, _, zs.take len', e, rfl, ⟨hzl, hl, by omega, fun x hx => wf_lm (hwz x (List.mem_of_mem_take hx)), fun hn => ?_⟩, hbd⟩
    obtain ⟨b1, off, spot⟩ := a
    have hspot : spot = none := by simpa [Addr.add] using World.cell?_spot (hcell 0 (by omega))
    subst hspot
    have hbW : b1 < W.heap.size := hlt (.cell b1 off) (by simp only [List.mem_append]; exact .inl (.inr (MemPlace.mem_row.2 ⟨0, by omega, by simp⟩)))
    refine ⟨b1, off, rfl, hbW, fun k hk => ?_⟩
    have hk2 : k < zs.length := by omega
    rw [← add_plain, hcell k hk2, List.getElem_take]
    simp [List.getD, List.getElem?_eq_getElem hk2]
end
end Go.Proofs.YtcoidcbbdibnaaaDoor
namespace Go.Proofs.YtcoidcbbdibnaaaDoor
section
open Go.Joins Go.ChangeShapes Go.WideShapes Go.ChangeAt Go.RowKit
set_option linter.unusedVariables false
set_option maxRecDepth 100000

theorem Tryd.gTab : Tryd.prog.globalNamed "math/bits.deBruijn64tab" = some 0 := by kernel_rfl
theorem Tryd.tTab : (Tryd.prog.globals[0]?).map (·.type) = some 75 := by kernel_rfl
def laidT {H : Type} : List (String × DataW H) := [("math/bits.deBruijn64tab", Rows.laid_math_bits_deBruijn64tab)]
theorem door_met (os : Go.Os) (args : Array Value) : laidMetH Tryd.prog laidT ((World.doorLaid Tryd.prog 400 os).forCall (fun _ _ => 0) ⟨#[], args, []⟩).memory :=
  laidMetH_of_parts3 (fuel := 8) (laidMet_of_run' 8 (by kernel_rfl) (by kernel_rfl)) (by kernel_rfl) (by kernel_rfl)
theorem cells8 : Tryd.prog.cellsOf 5 = 1 := by kernel_rfl
theorem tab_of_laid {W : World} (h : laidMetH Tryd.prog laidT W) : Tab W := by
  rw [MakeChecks.laidMetH_plain _ _ _ (by kernel_rfl)] at h
  obtain ⟨ps, ⟨g0, t0, cs0, f0, p0, q0, hg0, ht0, hv0, hd0, _, _⟩, _, _⟩ := h
  obtain rfl := Option.some.inj (Tryd.gTab.symm.trans hg0)
  obtain rfl := Option.some.inj (Tryd.tTab.symm.trans ht0)
  obtain ⟨xs, m1, rfl, hx1, hlen, hn3, hel⟩ := DataW.trod_array Tryd.underlying75 hd0
  simp only [Prod.mk.injEq] at hx1
  have hL : (xs.map fun x => x.fst) = Lib.deBruijn64tab.map fun (n : Nat) => DataW.lit (.int .u8 (n : Int)) := by
    have h1 := hx1.1
    have h2 : (Rows.laid_math_bits_deBruijn64tab : DataW Unit) = DataW.agg (Lib.deBruijn64tab.map fun (n : Nat) => DataW.lit (.int .u8 (n : Int))) := by kernel_rfl
    rw [h2] at h1
    injection h1 with h1
    exact h1.symm
  have hlt : Lib.deBruijn64tab.length = 64 := by kernel_rfl
  refine ⟨fun j hj => ?_⟩
  have hj0 := hel j hj
  obtain ⟨x, hx⟩ : ∃ x, xs[j]? = some x := ⟨xs[j], List.getElem?_eq_getElem (by omega)⟩
  rw [hx] at hj0
  obtain ⟨k, e1, e2, _⟩ := DataW.trod_int Tryd.underlying5 hj0
  have h3 := congrArg (fun l => l[j]?) hL
  simp only [List.getElem?_map, hx, Option.map_some, e2] at h3
  rw [List.getElem?_eq_getElem (by omega)] at h3
  simp only [Option.map_some, Option.some.injEq, DataW.lit.injEq, Lit.int.injEq, true_and] at h3
  have h4 := World.var?_cell hg0 hv0 j
  rw [cells8, Nat.mul_one] at e1
  have h5 : cs0.toList[j]? = some (.int .u8 k) := by
    have := congrArg (fun l => l[0]?) e1
    simpa using this
  rw [Array.getElem?_toList] at h5
  rw [h5] at h4
  rw [h4, h3]
  simp [List.getD, hlt, hj]
end
end Go.Proofs.YtcoidcbbdibnaaaDoor
namespace Go.Proofs.YtcoidcbbdibnaaaDoor
section
open Go.RowKit
set_option linter.unusedVariables false

theorem flI_bt {X t : Int} {k s : Nat} (h : Bt X k) (hs : t ≤ s) : Bt (flI X t) (k + s + 1) := by
  unfold flI
  split
  · unfold Bt at *
    have hp : 0 < 2 ^ (-t).toNat := Nat.two_pow_pos _
    rw [pow_cast]
    have h1 : (X / ((2 ^ (-t).toNat : Nat) : Int)).natAbs ≤ X.natAbs := by
      generalize 2 ^ (-t).toNat = d at *
      rcases Int.lt_or_le X 0 with h0 | h0
      · have a : X ≤ X / (d : Int) := by
          rw [Int.le_ediv_iff_mul_le (by omega)]
          have : X * (d : Int) ≤ X * 1 := Int.mul_le_mul_of_nonpos_left (by omega) (by omega)
          omega
        have b : X / (d : Int) < 0 := Int.ediv_neg_of_neg_of_pos h0 (by omega)
        omega
      · have a : X / (d : Int) ≤ X := Int.ediv_le_self _ h0
        have b : 0 ≤ X / (d : Int) := Int.ediv_nonneg h0 (by omega)
        omega
    exact Nat.lt_of_le_of_lt h1 (Nat.lt_of_lt_of_le h (Nat.pow_le_pow_right (by omega) (by omega)))
  · exact (h.pow _).mono (by omega)
/-- The integers below and above, against the number. -/
theorem fl_core {X t : Int} (ht : In t) : vd (flI X t) 0 ≤ vd X t ∧ vd X t ≤ vd (-flI (-X) t) 0 ∧ (-flI (-X) t - flI X t = 0 ↔ vd (flI X t) 0 = vd X t) ∧ -flI (-X) t - flI X t ≤ 1 := by
  unfold In at ht
  unfold vd flI
  by_cases h : t < 0
  · rw [if_pos h, if_pos h]
    obtain ⟨s, hs⟩ : ∃ s : Nat, t = -s := ⟨(-t).toNat, by omega⟩
    subst hs
    rw [show (-(-(s : Int))).toNat = s by omega, show ((0 : Int) + 4000).toNat = s + (4000 - s) by omega, show (-(s : Int) + 4000).toNat = 4000 - s by omega, Int.pow_add]
    have hd := two_pow_pos s
    have hq := two_pow_pos (4000 - s)
    generalize (2 : Int) ^ s = d at *
    generalize (2 : Int) ^ (4000 - s) = q at *
    have e1 := Int.mul_ediv_add_emod X d
    have e2 := Int.emod_nonneg X (show d ≠ 0 by omega)
    have e3 := Int.emod_lt_of_pos X hd
    have f1 := Int.mul_ediv_add_emod (-X) d
    have f2 := Int.emod_nonneg (-X) (show d ≠ 0 by omega)
    have f3 := Int.emod_lt_of_pos (-X) hd
    generalize X / d = a at *
    generalize X % d = r at *
    generalize -X / d = c at *
    generalize -X % d = u at *
    have g1 : d * (a + c) = -(r + u) := by rw [Int.mul_add]; omega
    have g2 : -2 < a + c := by
      rcases Int.lt_or_le (-2) (a + c) with h1 | h1
      · exact h1
      · have := Int.mul_le_mul_of_nonneg_left h1 (show 0 ≤ d by omega); omega
    have g3 : a + c ≤ 0 := by
      rcases Int.lt_or_le 0 (a + c) with h1 | h1
      · have := Int.mul_pos hd h1; omega
      · exact h1
    have m1 : a * (d * q) = (d * a) * q := by rw [Int.mul_comm d a, Int.mul_assoc]
    have m2 : -c * (d * q) = -((d * c) * q) := by rw [Int.neg_mul, Int.mul_comm d c, Int.mul_assoc]
    rw [m1, m2]
    refine ⟨Int.mul_le_mul_of_nonneg_right (by omega) (by omega), ?_, ?_, by omega⟩
    · rw [← Int.neg_mul]; exact Int.mul_le_mul_of_nonneg_right (by omega) (by omega)
    · constructor
      · intro h0
        have : a + c = 0 := by omega
        rw [this, Int.mul_zero] at g1
        congr 1; omega
      · intro h0
        have h1 := Int.eq_of_mul_eq_mul_right (show q ≠ 0 by omega) h0
        have h2 : r = 0 := by omega
        have h3 : u < d ∧ d * (a + c) = -u := ⟨f3, by omega⟩
        have h4 : -1 < a + c := by
          rcases Int.lt_or_le (-1) (a + c) with h5 | h5
          · exact h5
          · have := Int.mul_le_mul_of_nonneg_left h5 (show 0 ≤ d by omega); omega
        omega
  · rw [if_neg h, if_neg h]
    obtain ⟨s, hs⟩ : ∃ s : Nat, t = s := ⟨t.toNat, by omega⟩
    subst hs
    have e : X * 2 ^ ((s : Int)).toNat * 2 ^ ((0 : Int) + 4000).toNat = X * 2 ^ ((s : Int) + 4000).toNat := by
      rw [Int.mul_assoc, ipow_add]; congr 2
    have e2 : -(-X * 2 ^ ((s : Int)).toNat) = X * 2 ^ ((s : Int)).toNat := by rw [Int.neg_mul, Int.neg_neg]
    rw [e2, e]
    refine ⟨Int.le_refl _, Int.le_refl _, ⟨fun _ => rfl, fun _ => by omega⟩, by omega⟩
theorem sgn_le {X Y : Int} (h : X ≤ Y) : sgnI (X - Y) ≤ 0 := by
  rcases Int.lt_or_le 0 (sgnI (X - Y)) with hc | hc
  · have := sgnI_gt0.1 hc; omega
  · exact hc
theorem li_small {q : Int} (h : -500 < q ∧ q < 500) : li q = q := by unfold li; omega
theorem In0 : In 0 := ⟨by omega, by omega⟩
theorem of0 (X : Int) : cM X 0 = X ∧ cE 0 = 0 := c_yes In0

set_option maxRecDepth 100000 in
set_option maxHeartbeats 16000000 in
theorem DyadBetween_any {b : Bool} {A : Option Addr} {n c : Nat} {l : List Int} {e : Int} {w : World} (hT : Tab w) (h : Rd w w.heap.size A n c l) {q : Int} (_hq : -9223372036854775808 ≤ q ∧ q ≤ 9223372036854775807) :
    Calls Tryd.prog 7 #[.agg #[.bool b, .slice A n c, .int .i64 e], .int .i64 q] w fun e w' => e = .returned (.bool true) ∧ Below w.heap.size w w' := by
  go_enter Tryd.func7, Tryd.ntmps7
  go_wp2_with fail
  have x_a : Dx (w.alloc (.cells #[.bool b, .slice A n c, .int .i64 e] 26)) (w.heap.size) b A n c e := by have := Dx.new w b A n c e; simpa using this
  have hb : Below w.heap.size w (w.alloc (.cells #[.bool b, .slice A n c, .int .i64 e] 26)) := (Below.alloc (Below.refl w.heap.size w) (by simp) (.cells #[.bool b, .slice A n c, .int .i64 e] 26))
  generalize w.alloc (.cells #[.bool b, .slice A n c, .int .i64 e] 26) = v1 at *
  replace h := h.go hb
  replace hT := hT.keep hb
  have q_a0 := x_a.c0; have q_a1 := x_a.c1; have f_a0 := x_a.fr 0; have f_a1 := x_a.fr 1; have q_a2 := x_a.c2; have f_a2 := x_a.fr 2
  go_wp2_with fail
  with_reducible refine (Dshown_any hT).mono ?_
  rintro e v2 ⟨rfl, hb1⟩
  replace x_a := x_a.keep hb1
  replace h := h.go hb1
  replace hT := hT.keep hb1
  replace hb := bthen hb hb1
  clear hb1
  replace q_a0 := x_a.c0; replace q_a1 := x_a.c1; replace f_a0 := x_a.fr 0; replace f_a1 := x_a.fr 1; replace q_a2 := x_a.c2; replace f_a2 := x_a.fr 2
  go_wp2_with fail
  with_reducible refine (Dsmall_any h).mono ?_
  rintro e v3 ⟨Aa_, na_, ca_, A, rfl, za, hb1⟩
  replace x_a := x_a.keep hb1
  replace h := h.go hb1
  replace hT := hT.keep hb1
  replace hb := bthen hb hb1
  clear hb1
  replace q_a0 := x_a.c0; replace q_a1 := x_a.c1; replace f_a0 := x_a.fr 0; replace f_a1 := x_a.fr 1; replace q_a2 := x_a.c2; replace f_a2 := x_a.fr 2
  clear h
  go_wp2_with fail
  replace hT := hT.putD (b' := b) (A' := Aa_) (n' := na_) (c' := ca_) (e' := (e.tmod 600)) x_a
  replace za := za.putD (b' := b) (A' := Aa_) (n' := na_) (c' := ca_) (e' := (e.tmod 600)) x_a
  replace hb := put_belowD (g := w.heap.size) hb (by omega) (.bool b) (.slice Aa_ na_ ca_) (.int .i64 (e.tmod 600))
  replace x_a := x_a.put b Aa_ na_ ca_ (e.tmod 600)
  clear q_a0 q_a1 f_a0 f_a1 q_a2 f_a2
  generalize ((v3.setCell ⟨w.heap.size, 0, none⟩ (.bool b)).setCell ⟨w.heap.size, 1, none⟩ (.slice Aa_ na_ ca_)).setCell ⟨w.heap.size, 2, none⟩ (.int .i64 (e.tmod 600)) = v4 at *
  have q_a0 := x_a.c0; have q_a1 := x_a.c1; have f_a0 := x_a.fr 0; have f_a1 := x_a.fr 1; have q_a2 := x_a.c2; have f_a2 := x_a.fr 2
  have tia := tmod_in e 600 (by omega)
  have tiq := tmod_in q 500 (by omega)
  obtain ⟨Ea, hEa⟩ : ∃ E, e.tmod 600 = E := ⟨_, rfl⟩
  obtain ⟨Q, hQ⟩ : ∃ Q, q.tmod 500 = Q := ⟨_, rfl⟩
  simp only [hEa, hQ] at *
  clear hEa hQ
  have ina : In Ea := ⟨by omega, by omega⟩
  have hc := c_yes (X := A) ina
  have hli := li_small tiq
  obtain ⟨t, ht⟩ : ∃ t, Ea + Q = t := ⟨_, rfl⟩
  have htt : -1100 < t ∧ t < 1100 := by omega
  have int : In t := ⟨by omega, by omega⟩
  have hco := fl_core (X := A) int
  have bta := Bt.of_si za.si
  have btf : Bt (flI A t) 1400 := (flI_bt bta (show t ≤ (1100 : Nat) by omega)).mono (by omega)
  have btc : Bt (-flI (-A) t) 1400 := ((flI_bt bta.neg (show t ≤ (1100 : Nat) by omega)).neg).mono (by omega)
  obtain ⟨F, hF⟩ : ∃ F, flI A t = F := ⟨_, rfl⟩
  obtain ⟨C, hC⟩ : ∃ C, -flI (-A) t = C := ⟨_, rfl⟩
  rw [hF, hC] at hco
  rw [hF] at btf
  rw [hC] at btc
  have inx : In (nE A t) := nE_in bta (by omega) (by omega) (by omega)
  have inf : In (nE F 0) := nE_in btf (by omega) (by omega) (by omega)
  have inc : In (nE C 0) := nE_in btc (by omega) (by omega) (by omega)
  have vx : vd (od A) (nE A t) = vd A t := vd_nf (by omega)
  have vf : vd (od F) (nE F 0) = vd F 0 := vd_nf (by omega)
  have vc : vd (od C) (nE C 0) = vd C 0 := vd_nf (by omega)
  have k1 : sgnI (alP (od F) (nE F 0) (nE A t) - alQ (od A) (nE F 0) (nE A t)) = sgnI (vd F 0 - vd A t) := by rw [cmp_vd inf inx, vf, vx]
  have k2 : sgnI (alP (od A) (nE A t) (nE C 0) - alQ (od C) (nE A t) (nE C 0)) = sgnI (vd A t - vd C 0) := by rw [cmp_vd inx inc, vc, vx]
  have m1 := sgn_le hco.1; have m2 := sgn_le hco.2.1
  rw [← k1] at m1
  rw [← k2] at m2
  have m3 : (sgnI (C - F) == 0) = (sgnI (alP (od F) (nE F 0) (nE A t) - alQ (od A) (nE F 0) (nE A t)) == 0) := by rw [k1, Bool.eq_iff_iff]; simp only [beq_iff_eq, sgnI_eq0]; rw [hco.2.2.1]; omega
  have m4 : sgnI (C - F - 1) ≤ 0 := sgn_le hco.2.2.2
  obtain ⟨s1, hs1⟩ : ∃ s1, sgnI (alP (od F) (nE F 0) (nE A t) - alQ (od A) (nE F 0) (nE A t)) = s1 := ⟨_, rfl⟩
  obtain ⟨s2, hs2⟩ : ∃ s2, sgnI (alP (od A) (nE A t) (nE C 0) - alQ (od C) (nE A t) (nE C 0)) = s2 := ⟨_, rfl⟩
  obtain ⟨s3, hs3⟩ : ∃ s3, sgnI (C - F) = s3 := ⟨_, rfl⟩
  obtain ⟨s4, hs4⟩ : ∃ s4, sgnI (C - F - 1) = s4 := ⟨_, rfl⟩
  rw [hs1] at m1 m3; rw [hs2] at m2; rw [hs3] at m3; rw [hs4] at m4
  have h1 : flI (cM A Ea) (cE Ea + li Q) = F := by rw [hc.1, hc.2, hli, ht, hF]
  have h2 : -flI (-cM A Ea) (cE Ea + li Q) = C := by rw [hc.1, hc.2, hli, ht, hC]
  have h3 : nE (cM A Ea) (cE Ea + li Q) = nE A t := by rw [hc.1, hc.2, hli, ht]
  have h4 := hc.1
  have h5 := of0 F; have h6 := of0 C
  have H1 := Lib.hid h1; have H2 := Lib.hid h2; have H3 := Lib.hid h3; have H4 := Lib.hid h4; have H5 := Lib.hid h5; have H6 := Lib.hid h6; have HS1 := Lib.hid hs1; have HS2 := Lib.hid hs2; have HS3 := Lib.hid hs3; have HS4 := Lib.hid hs4
  have nx := inx; have nf := inf; have nc := inc
  unfold In at nx nf nc
  clear h1 h2 h3 h4 h5 h6 hs1 hs2 hs3 hs4 k1 k2 vx vf vc hco bta btf btc inx inf inc int hc hli ht ina hF hC
  generalize nE A t = EX at *
  generalize hEF : nE F 0 = EF at *
  have HEF := Lib.hid hEF; clear hEF
  generalize hEC : nE C 0 = EC at *
  have HEC := Lib.hid hEC; clear hEC
  skip
  with_reducible refine (DFloor_any za Q 132 (by omega) (by omega)).mono ?_
  rintro e v5 ⟨A1, n1, c1, rfl, zf, hb1⟩
  replace x_a := x_a.keep hb1
  replace hT := hT.keep hb1
  replace za := za.keep hb1
  replace hb := bthen hb hb1
  clear hb1
  replace q_a0 := x_a.c0; replace q_a1 := x_a.c1; replace f_a0 := x_a.fr 0; replace f_a1 := x_a.fr 1; replace q_a2 := x_a.c2; replace f_a2 := x_a.fr 2
  rw [H1.out] at zf ⊢
  have y_a := (x_a.alloc (.cells #[.bool (ngB F), .slice A1 n1 c1] 24)); have yq_a0 := y_a.c0; have yq_a1 := y_a.c1; have yq_a2 := y_a.c2
  go_wp2_with fail
  clear y_a yq_a0 yq_a1 yq_a2
  have hb1 := below_alloc v5 (.cells #[.bool (ngB F), .slice A1 n1 c1] 24)
  have l_a_f := x_a.lt
  have x_f := Bx.new v5 (ngB F) A1 n1 c1
  have e_f : w.heap.size ≤ v5.heap.size := hb.size
  replace x_a := x_a.keep hb1
  replace hT := hT.keep hb1
  replace za := za.keep hb1
  replace zf := zf.keep hb1
  replace hb := bthen hb hb1
  clear hb1
  replace q_a0 := x_a.c0; replace q_a1 := x_a.c1; replace f_a0 := x_a.fr 0; replace f_a1 := x_a.fr 1; replace q_a2 := x_a.c2; replace f_a2 := x_a.fr 2
  clear q_a0 q_a1 f_a0 f_a1 q_a2 f_a2
  generalize v5.alloc (.cells #[.bool (ngB F), .slice A1 n1 c1] 24) = v6 at *
  have q_a0 := x_a.c0; have q_a1 := x_a.c1; have f_a0 := x_a.fr 0; have f_a1 := x_a.fr 1; have q_a2 := x_a.c2; have f_a2 := x_a.fr 2
  have q_f0 := x_f.c0; have q_f1 := x_f.c1; have f_f0 := x_f.fr 0; have f_f1 := x_f.fr 1
  skip
  with_reducible refine (DCeil_any za Q 132 (by omega) (by omega)).mono ?_
  rintro e v7 ⟨A2_, n2_, c2_, rfl, zc, hb1⟩
  replace x_a := x_a.keep hb1
  replace x_f := x_f.keep hb1
  replace hT := hT.keep hb1
  replace za := za.keep hb1
  replace zf := zf.keep hb1
  replace hb := bthen hb hb1
  clear hb1
  replace q_a0 := x_a.c0; replace q_a1 := x_a.c1; replace f_a0 := x_a.fr 0; replace f_a1 := x_a.fr 1; replace q_a2 := x_a.c2; replace f_a2 := x_a.fr 2
  replace q_f0 := x_f.c0; replace q_f1 := x_f.c1; replace f_f0 := x_f.fr 0; replace f_f1 := x_f.fr 1
  rw [H2.out] at zc ⊢
  have y_a := (x_a.alloc (.cells #[.bool (ngB C), .slice A2_ n2_ c2_] 24)); have yq_a0 := y_a.c0; have yq_a1 := y_a.c1; have yq_a2 := y_a.c2
  have y_f := (x_f.alloc (.cells #[.bool (ngB C), .slice A2_ n2_ c2_] 24)); have yq_f0 := y_f.c0; have yq_f1 := y_f.c1
  go_wp2_with fail
  clear y_a yq_a0 yq_a1 yq_a2 y_f yq_f0 yq_f1
  have hb1 := below_alloc v7 (.cells #[.bool (ngB C), .slice A2_ n2_ c2_] 24)
  have l_a_c := x_a.lt
  have l_f_c := x_f.lt
  have x_c := Bx.new v7 (ngB C) A2_ n2_ c2_
  have e_c : w.heap.size ≤ v7.heap.size := hb.size
  replace x_a := x_a.keep hb1
  replace x_f := x_f.keep hb1
  replace hT := hT.keep hb1
  replace za := za.keep hb1
  replace zf := zf.keep hb1
  replace zc := zc.keep hb1
  replace hb := bthen hb hb1
  clear hb1
  replace q_a0 := x_a.c0; replace q_a1 := x_a.c1; replace f_a0 := x_a.fr 0; replace f_a1 := x_a.fr 1; replace q_a2 := x_a.c2; replace f_a2 := x_a.fr 2
  replace q_f0 := x_f.c0; replace q_f1 := x_f.c1; replace f_f0 := x_f.fr 0; replace f_f1 := x_f.fr 1
  clear q_a0 q_a1 f_a0 f_a1 q_a2 f_a2 q_f0 q_f1 f_f0 f_f1
  generalize v7.alloc (.cells #[.bool (ngB C), .slice A2_ n2_ c2_] 24) = v8 at *
  have q_a0 := x_a.c0; have q_a1 := x_a.c1; have f_a0 := x_a.fr 0; have f_a1 := x_a.fr 1; have q_a2 := x_a.c2; have f_a2 := x_a.fr 2
  have q_f0 := x_f.c0; have q_f1 := x_f.c1; have f_f0 := x_f.fr 0; have f_f1 := x_f.fr 1
  have q_c0 := x_c.c0; have q_c1 := x_c.c1; have f_c0 := x_c.fr 0; have f_c1 := x_c.fr 1
  skip
  with_reducible refine (DShift_any za Q hT 5 (by omega) (by omega)).mono ?_
  rintro e v9 ⟨A3, n3, c3, rfl, zx, hb1⟩
  replace x_a := x_a.keep hb1
  replace x_f := x_f.keep hb1
  replace x_c := x_c.keep hb1
  replace hT := hT.keep hb1
  replace za := za.keep hb1
  replace zf := zf.keep hb1
  replace zc := zc.keep hb1
  replace hb := bthen hb hb1
  clear hb1
  replace q_a0 := x_a.c0; replace q_a1 := x_a.c1; replace f_a0 := x_a.fr 0; replace f_a1 := x_a.fr 1; replace q_a2 := x_a.c2; replace f_a2 := x_a.fr 2
  replace q_f0 := x_f.c0; replace q_f1 := x_f.c1; replace f_f0 := x_f.fr 0; replace f_f1 := x_f.fr 1
  replace q_c0 := x_c.c0; replace q_c1 := x_c.c1; replace f_c0 := x_c.fr 0; replace f_c1 := x_c.fr 1
  rw [H4.out] at zx
  rw [H3.out, H4.out]
  have y_a := (x_a.alloc (.cells #[.bool (ngB (od A)), .slice A3 n3 c3, .int .i64 EX] 26)); have yq_a0 := y_a.c0; have yq_a1 := y_a.c1; have yq_a2 := y_a.c2
  have y_f := (x_f.alloc (.cells #[.bool (ngB (od A)), .slice A3 n3 c3, .int .i64 EX] 26)); have yq_f0 := y_f.c0; have yq_f1 := y_f.c1
  have y_c := (x_c.alloc (.cells #[.bool (ngB (od A)), .slice A3 n3 c3, .int .i64 EX] 26)); have yq_c0 := y_c.c0; have yq_c1 := y_c.c1
  go_wp2_with fail
  clear y_a yq_a0 yq_a1 yq_a2 y_f yq_f0 yq_f1 y_c yq_c0 yq_c1
  have hb1 := below_alloc v9 (.cells #[.bool (ngB (od A)), .slice A3 n3 c3, .int .i64 EX] 26)
  have l_a_x := x_a.lt
  have l_f_x := x_f.lt
  have l_c_x := x_c.lt
  have x_x := Dx.new v9 (ngB (od A)) A3 n3 c3 EX
  have e_x : w.heap.size ≤ v9.heap.size := hb.size
  replace x_a := x_a.keep hb1
  replace x_f := x_f.keep hb1
  replace x_c := x_c.keep hb1
  replace hT := hT.keep hb1
  replace za := za.keep hb1
  replace zf := zf.keep hb1
  replace zc := zc.keep hb1
  replace zx := zx.keep hb1
  replace hb := bthen hb hb1
  clear hb1
  replace q_a0 := x_a.c0; replace q_a1 := x_a.c1; replace f_a0 := x_a.fr 0; replace f_a1 := x_a.fr 1; replace q_a2 := x_a.c2; replace f_a2 := x_a.fr 2
  replace q_f0 := x_f.c0; replace q_f1 := x_f.c1; replace f_f0 := x_f.fr 0; replace f_f1 := x_f.fr 1
  replace q_c0 := x_c.c0; replace q_c1 := x_c.c1; replace f_c0 := x_c.fr 0; replace f_c1 := x_c.fr 1
  clear q_a0 q_a1 f_a0 f_a1 q_a2 f_a2 q_f0 q_f1 f_f0 f_f1 q_c0 q_c1 f_c0 f_c1
  generalize v9.alloc (.cells #[.bool (ngB (od A)), .slice A3 n3 c3, .int .i64 EX] 26) = v10 at *
  have q_a0 := x_a.c0; have q_a1 := x_a.c1; have f_a0 := x_a.fr 0; have f_a1 := x_a.fr 1; have q_a2 := x_a.c2; have f_a2 := x_a.fr 2
  have q_f0 := x_f.c0; have q_f1 := x_f.c1; have f_f0 := x_f.fr 0; have f_f1 := x_f.fr 1
  have q_c0 := x_c.c0; have q_c1 := x_c.c1; have f_c0 := x_c.fr 0; have f_c1 := x_c.fr 1
  have q_x0 := x_x.c0; have q_x1 := x_x.c1; have f_x0 := x_x.fr 0; have f_x1 := x_x.fr 1; have q_x2 := x_x.c2; have f_x2 := x_x.fr 2
  skip
  with_reducible refine (DOf_any zf.zr hT 133 (by omega) (by omega)).mono ?_
  rintro e v11 ⟨A4, n4, c4, rfl, zl, hb1⟩
  replace x_a := x_a.keep hb1
  replace x_f := x_f.keep hb1
  replace x_c := x_c.keep hb1
  replace x_x := x_x.keep hb1
  replace hT := hT.keep hb1
  replace za := za.keep hb1
  replace zf := zf.keep hb1
  replace zc := zc.keep hb1
  replace zx := zx.keep hb1
  replace hb := bthen hb hb1
  clear hb1
  replace q_a0 := x_a.c0; replace q_a1 := x_a.c1; replace f_a0 := x_a.fr 0; replace f_a1 := x_a.fr 1; replace q_a2 := x_a.c2; replace f_a2 := x_a.fr 2
  replace q_f0 := x_f.c0; replace q_f1 := x_f.c1; replace f_f0 := x_f.fr 0; replace f_f1 := x_f.fr 1
  replace q_c0 := x_c.c0; replace q_c1 := x_c.c1; replace f_c0 := x_c.fr 0; replace f_c1 := x_c.fr 1
  replace q_x0 := x_x.c0; replace q_x1 := x_x.c1; replace f_x0 := x_x.fr 0; replace f_x1 := x_x.fr 1; replace q_x2 := x_x.c2; replace f_x2 := x_x.fr 2
  rw [H5.out.1] at zl ⊢
  rw [H5.out.2]
  simp only [HEF.out]
  have y_a := (x_a.alloc (.cells #[.bool (ngB (od F)), .slice A4 n4 c4, .int .i64 EF] 26)); have yq_a0 := y_a.c0; have yq_a1 := y_a.c1; have yq_a2 := y_a.c2
  have y_f := (x_f.alloc (.cells #[.bool (ngB (od F)), .slice A4 n4 c4, .int .i64 EF] 26)); have yq_f0 := y_f.c0; have yq_f1 := y_f.c1
  have y_c := (x_c.alloc (.cells #[.bool (ngB (od F)), .slice A4 n4 c4, .int .i64 EF] 26)); have yq_c0 := y_c.c0; have yq_c1 := y_c.c1
  have y_x := (x_x.alloc (.cells #[.bool (ngB (od F)), .slice A4 n4 c4, .int .i64 EF] 26)); have yq_x0 := y_x.c0; have yq_x1 := y_x.c1; have yq_x2 := y_x.c2
  go_wp2_with fail
  clear y_a yq_a0 yq_a1 yq_a2 y_f yq_f0 yq_f1 y_c yq_c0 yq_c1 y_x yq_x0 yq_x1 yq_x2
  have hb1 := below_alloc v11 (.cells #[.bool (ngB (od F)), .slice A4 n4 c4, .int .i64 EF] 26)
  have l_a_l := x_a.lt
  have l_f_l := x_f.lt
  have l_c_l := x_c.lt
  have l_x_l := x_x.lt
  have x_l := Dx.new v11 (ngB (od F)) A4 n4 c4 EF
  have e_l : w.heap.size ≤ v11.heap.size := hb.size
  replace x_a := x_a.keep hb1
  replace x_f := x_f.keep hb1
  replace x_c := x_c.keep hb1
  replace x_x := x_x.keep hb1
  replace hT := hT.keep hb1
  replace za := za.keep hb1
  replace zf := zf.keep hb1
  replace zc := zc.keep hb1
  replace zx := zx.keep hb1
  replace zl := zl.keep hb1
  replace hb := bthen hb hb1
  clear hb1
  replace q_a0 := x_a.c0; replace q_a1 := x_a.c1; replace f_a0 := x_a.fr 0; replace f_a1 := x_a.fr 1; replace q_a2 := x_a.c2; replace f_a2 := x_a.fr 2
  replace q_f0 := x_f.c0; replace q_f1 := x_f.c1; replace f_f0 := x_f.fr 0; replace f_f1 := x_f.fr 1
  replace q_c0 := x_c.c0; replace q_c1 := x_c.c1; replace f_c0 := x_c.fr 0; replace f_c1 := x_c.fr 1
  replace q_x0 := x_x.c0; replace q_x1 := x_x.c1; replace f_x0 := x_x.fr 0; replace f_x1 := x_x.fr 1; replace q_x2 := x_x.c2; replace f_x2 := x_x.fr 2
  clear q_a0 q_a1 f_a0 f_a1 q_a2 f_a2 q_f0 q_f1 f_f0 f_f1 q_c0 q_c1 f_c0 f_c1 q_x0 q_x1 f_x0 f_x1 q_x2 f_x2
  generalize v11.alloc (.cells #[.bool (ngB (od F)), .slice A4 n4 c4, .int .i64 EF] 26) = v12 at *
  have q_a0 := x_a.c0; have q_a1 := x_a.c1; have f_a0 := x_a.fr 0; have f_a1 := x_a.fr 1; have q_a2 := x_a.c2; have f_a2 := x_a.fr 2
  have q_f0 := x_f.c0; have q_f1 := x_f.c1; have f_f0 := x_f.fr 0; have f_f1 := x_f.fr 1
  have q_c0 := x_c.c0; have q_c1 := x_c.c1; have f_c0 := x_c.fr 0; have f_c1 := x_c.fr 1
  have q_x0 := x_x.c0; have q_x1 := x_x.c1; have f_x0 := x_x.fr 0; have f_x1 := x_x.fr 1; have q_x2 := x_x.c2; have f_x2 := x_x.fr 2
  have q_l0 := x_l.c0; have q_l1 := x_l.c1; have f_l0 := x_l.fr 0; have f_l1 := x_l.fr 1; have q_l2 := x_l.c2; have f_l2 := x_l.fr 2
  skip
  with_reducible refine (DOf_any zc.zr hT 133 (by omega) (by omega)).mono ?_
  rintro e v13 ⟨A5, n5, c5, rfl, zh, hb1⟩
  replace x_a := x_a.keep hb1
  replace x_f := x_f.keep hb1
  replace x_c := x_c.keep hb1
  replace x_x := x_x.keep hb1
  replace x_l := x_l.keep hb1
  replace hT := hT.keep hb1
  replace za := za.keep hb1
  replace zf := zf.keep hb1
  replace zc := zc.keep hb1
  replace zx := zx.keep hb1
  replace zl := zl.keep hb1
  replace hb := bthen hb hb1
  clear hb1
  replace q_a0 := x_a.c0; replace q_a1 := x_a.c1; replace f_a0 := x_a.fr 0; replace f_a1 := x_a.fr 1; replace q_a2 := x_a.c2; replace f_a2 := x_a.fr 2
  replace q_f0 := x_f.c0; replace q_f1 := x_f.c1; replace f_f0 := x_f.fr 0; replace f_f1 := x_f.fr 1
  replace q_c0 := x_c.c0; replace q_c1 := x_c.c1; replace f_c0 := x_c.fr 0; replace f_c1 := x_c.fr 1
  replace q_x0 := x_x.c0; replace q_x1 := x_x.c1; replace f_x0 := x_x.fr 0; replace f_x1 := x_x.fr 1; replace q_x2 := x_x.c2; replace f_x2 := x_x.fr 2
  replace q_l0 := x_l.c0; replace q_l1 := x_l.c1; replace f_l0 := x_l.fr 0; replace f_l1 := x_l.fr 1; replace q_l2 := x_l.c2; replace f_l2 := x_l.fr 2
  rw [H6.out.1] at zh ⊢
  rw [H6.out.2]
  simp only [HEC.out]
  have y_a := (x_a.alloc (.cells #[.bool (ngB (od C)), .slice A5 n5 c5, .int .i64 EC] 26)); have yq_a0 := y_a.c0; have yq_a1 := y_a.c1; have yq_a2 := y_a.c2
  have y_f := (x_f.alloc (.cells #[.bool (ngB (od C)), .slice A5 n5 c5, .int .i64 EC] 26)); have yq_f0 := y_f.c0; have yq_f1 := y_f.c1
  have y_c := (x_c.alloc (.cells #[.bool (ngB (od C)), .slice A5 n5 c5, .int .i64 EC] 26)); have yq_c0 := y_c.c0; have yq_c1 := y_c.c1
  have y_x := (x_x.alloc (.cells #[.bool (ngB (od C)), .slice A5 n5 c5, .int .i64 EC] 26)); have yq_x0 := y_x.c0; have yq_x1 := y_x.c1; have yq_x2 := y_x.c2
  have y_l := (x_l.alloc (.cells #[.bool (ngB (od C)), .slice A5 n5 c5, .int .i64 EC] 26)); have yq_l0 := y_l.c0; have yq_l1 := y_l.c1; have yq_l2 := y_l.c2
  go_wp2_with fail
  clear y_a yq_a0 yq_a1 yq_a2 y_f yq_f0 yq_f1 y_c yq_c0 yq_c1 y_x yq_x0 yq_x1 yq_x2 y_l yq_l0 yq_l1 yq_l2
  have hb1 := below_alloc v13 (.cells #[.bool (ngB (od C)), .slice A5 n5 c5, .int .i64 EC] 26)
  have l_a_h := x_a.lt
  have l_f_h := x_f.lt
  have l_c_h := x_c.lt
  have l_x_h := x_x.lt
  have l_l_h := x_l.lt
  have x_h := Dx.new v13 (ngB (od C)) A5 n5 c5 EC
  have e_h : w.heap.size ≤ v13.heap.size := hb.size
  replace x_a := x_a.keep hb1
  replace x_f := x_f.keep hb1
  replace x_c := x_c.keep hb1
  replace x_x := x_x.keep hb1
  replace x_l := x_l.keep hb1
  replace hT := hT.keep hb1
  replace za := za.keep hb1
  replace zf := zf.keep hb1
  replace zc := zc.keep hb1
  replace zx := zx.keep hb1
  replace zl := zl.keep hb1
  replace zh := zh.keep hb1
  replace hb := bthen hb hb1
  clear hb1
  replace q_a0 := x_a.c0; replace q_a1 := x_a.c1; replace f_a0 := x_a.fr 0; replace f_a1 := x_a.fr 1; replace q_a2 := x_a.c2; replace f_a2 := x_a.fr 2
  replace q_f0 := x_f.c0; replace q_f1 := x_f.c1; replace f_f0 := x_f.fr 0; replace f_f1 := x_f.fr 1
  replace q_c0 := x_c.c0; replace q_c1 := x_c.c1; replace f_c0 := x_c.fr 0; replace f_c1 := x_c.fr 1
  replace q_x0 := x_x.c0; replace q_x1 := x_x.c1; replace f_x0 := x_x.fr 0; replace f_x1 := x_x.fr 1; replace q_x2 := x_x.c2; replace f_x2 := x_x.fr 2
  replace q_l0 := x_l.c0; replace q_l1 := x_l.c1; replace f_l0 := x_l.fr 0; replace f_l1 := x_l.fr 1; replace q_l2 := x_l.c2; replace f_l2 := x_l.fr 2
  clear q_a0 q_a1 f_a0 f_a1 q_a2 f_a2 q_f0 q_f1 f_f0 f_f1 q_c0 q_c1 f_c0 f_c1 q_x0 q_x1 f_x0 f_x1 q_x2 f_x2 q_l0 q_l1 f_l0 f_l1 q_l2 f_l2
  generalize v13.alloc (.cells #[.bool (ngB (od C)), .slice A5 n5 c5, .int .i64 EC] 26) = v14 at *
  have q_a0 := x_a.c0; have q_a1 := x_a.c1; have f_a0 := x_a.fr 0; have f_a1 := x_a.fr 1; have q_a2 := x_a.c2; have f_a2 := x_a.fr 2
  have q_f0 := x_f.c0; have q_f1 := x_f.c1; have f_f0 := x_f.fr 0; have f_f1 := x_f.fr 1
  have q_c0 := x_c.c0; have q_c1 := x_c.c1; have f_c0 := x_c.fr 0; have f_c1 := x_c.fr 1
  have q_x0 := x_x.c0; have q_x1 := x_x.c1; have f_x0 := x_x.fr 0; have f_x1 := x_x.fr 1; have q_x2 := x_x.c2; have f_x2 := x_x.fr 2
  have q_l0 := x_l.c0; have q_l1 := x_l.c1; have f_l0 := x_l.fr 0; have f_l1 := x_l.fr 1; have q_l2 := x_l.c2; have f_l2 := x_l.fr 2
  have q_h0 := x_h.c0; have q_h1 := x_h.c1; have f_h0 := x_h.fr 0; have f_h1 := x_h.fr 1; have q_h2 := x_h.c2; have f_h2 := x_h.fr 2
  skip
  with_reducible refine (ZSub_any zc.zr zf.zr 134 (by omega) (by omega) (by omega)).mono ?_
  rintro e v15 ⟨A6, n6, c6, rfl, zg, hb1⟩
  replace x_a := x_a.keep hb1
  replace x_f := x_f.keep hb1
  replace x_c := x_c.keep hb1
  replace x_x := x_x.keep hb1
  replace x_l := x_l.keep hb1
  replace x_h := x_h.keep hb1
  replace hT := hT.keep hb1
  replace za := za.keep hb1
  replace zf := zf.keep hb1
  replace zc := zc.keep hb1
  replace zx := zx.keep hb1
  replace zl := zl.keep hb1
  replace zh := zh.keep hb1
  replace hb := bthen hb hb1
  clear hb1
  replace q_a0 := x_a.c0; replace q_a1 := x_a.c1; replace f_a0 := x_a.fr 0; replace f_a1 := x_a.fr 1; replace q_a2 := x_a.c2; replace f_a2 := x_a.fr 2
  replace q_f0 := x_f.c0; replace q_f1 := x_f.c1; replace f_f0 := x_f.fr 0; replace f_f1 := x_f.fr 1
  replace q_c0 := x_c.c0; replace q_c1 := x_c.c1; replace f_c0 := x_c.fr 0; replace f_c1 := x_c.fr 1
  replace q_x0 := x_x.c0; replace q_x1 := x_x.c1; replace f_x0 := x_x.fr 0; replace f_x1 := x_x.fr 1; replace q_x2 := x_x.c2; replace f_x2 := x_x.fr 2
  replace q_l0 := x_l.c0; replace q_l1 := x_l.c1; replace f_l0 := x_l.fr 0; replace f_l1 := x_l.fr 1; replace q_l2 := x_l.c2; replace f_l2 := x_l.fr 2
  replace q_h0 := x_h.c0; replace q_h1 := x_h.c1; replace f_h0 := x_h.fr 0; replace f_h1 := x_h.fr 1; replace q_h2 := x_h.c2; replace f_h2 := x_h.fr 2
  have y_a := (x_a.alloc (.cells #[.bool (ngB (C - F)), .slice A6 n6 c6] 24)); have yq_a0 := y_a.c0; have yq_a1 := y_a.c1; have yq_a2 := y_a.c2
  have y_f := (x_f.alloc (.cells #[.bool (ngB (C - F)), .slice A6 n6 c6] 24)); have yq_f0 := y_f.c0; have yq_f1 := y_f.c1
  have y_c := (x_c.alloc (.cells #[.bool (ngB (C - F)), .slice A6 n6 c6] 24)); have yq_c0 := y_c.c0; have yq_c1 := y_c.c1
  have y_x := (x_x.alloc (.cells #[.bool (ngB (C - F)), .slice A6 n6 c6] 24)); have yq_x0 := y_x.c0; have yq_x1 := y_x.c1; have yq_x2 := y_x.c2
  have y_l := (x_l.alloc (.cells #[.bool (ngB (C - F)), .slice A6 n6 c6] 24)); have yq_l0 := y_l.c0; have yq_l1 := y_l.c1; have yq_l2 := y_l.c2
  have y_h := (x_h.alloc (.cells #[.bool (ngB (C - F)), .slice A6 n6 c6] 24)); have yq_h0 := y_h.c0; have yq_h1 := y_h.c1; have yq_h2 := y_h.c2
  go_wp2_with fail
  clear y_a yq_a0 yq_a1 yq_a2 y_f yq_f0 yq_f1 y_c yq_c0 yq_c1 y_x yq_x0 yq_x1 yq_x2 y_l yq_l0 yq_l1 yq_l2 y_h yq_h0 yq_h1 yq_h2
  have hb1 := below_alloc v15 (.cells #[.bool (ngB (C - F)), .slice A6 n6 c6] 24)
  have l_a_g := x_a.lt
  have l_f_g := x_f.lt
  have l_c_g := x_c.lt
  have l_x_g := x_x.lt
  have l_l_g := x_l.lt
  have l_h_g := x_h.lt
  have x_g := Bx.new v15 (ngB (C - F)) A6 n6 c6
  have e_g : w.heap.size ≤ v15.heap.size := hb.size
  replace x_a := x_a.keep hb1
  replace x_f := x_f.keep hb1
  replace x_c := x_c.keep hb1
  replace x_x := x_x.keep hb1
  replace x_l := x_l.keep hb1
  replace x_h := x_h.keep hb1
  replace hT := hT.keep hb1
  replace za := za.keep hb1
  replace zf := zf.keep hb1
  replace zc := zc.keep hb1
  replace zx := zx.keep hb1
  replace zl := zl.keep hb1
  replace zh := zh.keep hb1
  replace zg := zg.keep hb1
  replace hb := bthen hb hb1
  clear hb1
  replace q_a0 := x_a.c0; replace q_a1 := x_a.c1; replace f_a0 := x_a.fr 0; replace f_a1 := x_a.fr 1; replace q_a2 := x_a.c2; replace f_a2 := x_a.fr 2
  replace q_f0 := x_f.c0; replace q_f1 := x_f.c1; replace f_f0 := x_f.fr 0; replace f_f1 := x_f.fr 1
  replace q_c0 := x_c.c0; replace q_c1 := x_c.c1; replace f_c0 := x_c.fr 0; replace f_c1 := x_c.fr 1
  replace q_x0 := x_x.c0; replace q_x1 := x_x.c1; replace f_x0 := x_x.fr 0; replace f_x1 := x_x.fr 1; replace q_x2 := x_x.c2; replace f_x2 := x_x.fr 2
  replace q_l0 := x_l.c0; replace q_l1 := x_l.c1; replace f_l0 := x_l.fr 0; replace f_l1 := x_l.fr 1; replace q_l2 := x_l.c2; replace f_l2 := x_l.fr 2
  replace q_h0 := x_h.c0; replace q_h1 := x_h.c1; replace f_h0 := x_h.fr 0; replace f_h1 := x_h.fr 1; replace q_h2 := x_h.c2; replace f_h2 := x_h.fr 2
  clear q_a0 q_a1 f_a0 f_a1 q_a2 f_a2 q_f0 q_f1 f_f0 f_f1 q_c0 q_c1 f_c0 f_c1 q_x0 q_x1 f_x0 f_x1 q_x2 f_x2 q_l0 q_l1 f_l0 f_l1 q_l2 f_l2 q_h0 q_h1 f_h0 f_h1 q_h2 f_h2
  generalize v15.alloc (.cells #[.bool (ngB (C - F)), .slice A6 n6 c6] 24) = v16 at *
  have q_a0 := x_a.c0; have q_a1 := x_a.c1; have f_a0 := x_a.fr 0; have f_a1 := x_a.fr 1; have q_a2 := x_a.c2; have f_a2 := x_a.fr 2
  have q_f0 := x_f.c0; have q_f1 := x_f.c1; have f_f0 := x_f.fr 0; have f_f1 := x_f.fr 1
  have q_c0 := x_c.c0; have q_c1 := x_c.c1; have f_c0 := x_c.fr 0; have f_c1 := x_c.fr 1
  have q_x0 := x_x.c0; have q_x1 := x_x.c1; have f_x0 := x_x.fr 0; have f_x1 := x_x.fr 1; have q_x2 := x_x.c2; have f_x2 := x_x.fr 2
  have q_l0 := x_l.c0; have q_l1 := x_l.c1; have f_l0 := x_l.fr 0; have f_l1 := x_l.fr 1; have q_l2 := x_l.c2; have f_l2 := x_l.fr 2
  have q_h0 := x_h.c0; have q_h1 := x_h.c1; have f_h0 := x_h.fr 0; have f_h1 := x_h.fr 1; have q_h2 := x_h.c2; have f_h2 := x_h.fr 2
  have q_g0 := x_g.c0; have q_g1 := x_g.c1; have f_g0 := x_g.fr 0; have f_g1 := x_g.fr 1
  skip
  with_reducible refine (DCmp_any zl.zr zx.zr (by omega) (by omega)).mono ?_
  rintro e v17 ⟨rfl, hb1⟩
  replace x_a := x_a.keep hb1
  replace x_f := x_f.keep hb1
  replace x_c := x_c.keep hb1
  replace x_x := x_x.keep hb1
  replace x_l := x_l.keep hb1
  replace x_h := x_h.keep hb1
  replace x_g := x_g.keep hb1
  replace hT := hT.keep hb1
  replace za := za.keep hb1
  replace zf := zf.keep hb1
  replace zc := zc.keep hb1
  replace zx := zx.keep hb1
  replace zl := zl.keep hb1
  replace zh := zh.keep hb1
  replace zg := zg.keep hb1
  replace hb := bthen hb hb1
  clear hb1
  replace q_a0 := x_a.c0; replace q_a1 := x_a.c1; replace f_a0 := x_a.fr 0; replace f_a1 := x_a.fr 1; replace q_a2 := x_a.c2; replace f_a2 := x_a.fr 2
  replace q_f0 := x_f.c0; replace q_f1 := x_f.c1; replace f_f0 := x_f.fr 0; replace f_f1 := x_f.fr 1
  replace q_c0 := x_c.c0; replace q_c1 := x_c.c1; replace f_c0 := x_c.fr 0; replace f_c1 := x_c.fr 1
  replace q_x0 := x_x.c0; replace q_x1 := x_x.c1; replace f_x0 := x_x.fr 0; replace f_x1 := x_x.fr 1; replace q_x2 := x_x.c2; replace f_x2 := x_x.fr 2
  replace q_l0 := x_l.c0; replace q_l1 := x_l.c1; replace f_l0 := x_l.fr 0; replace f_l1 := x_l.fr 1; replace q_l2 := x_l.c2; replace f_l2 := x_l.fr 2
  replace q_h0 := x_h.c0; replace q_h1 := x_h.c1; replace f_h0 := x_h.fr 0; replace f_h1 := x_h.fr 1; replace q_h2 := x_h.c2; replace f_h2 := x_h.fr 2
  replace q_g0 := x_g.c0; replace q_g1 := x_g.c1; replace f_g0 := x_g.fr 0; replace f_g1 := x_g.fr 1
  rw [HS1.out]
  go_wp2_with fail
  first | (go_region_held3 (fun w' => w'.cell? ⟨v11.heap.size, 0, none⟩ = some (.bool (ngB (od F))) ∧ w'.cell? ⟨v11.heap.size, 1, none⟩ = some (.slice A4 n4 c4) ∧ w'.cell? ⟨v11.heap.size, 2, none⟩ = some (.int .i64 EF) ∧ w'.cell? ⟨v9.heap.size, 0, none⟩ = some (.bool (ngB (od A))) ∧ w'.cell? ⟨v9.heap.size, 1, none⟩ = some (.slice A3 n3 c3) ∧ w'.cell? ⟨v9.heap.size, 2, none⟩ = some (.int .i64 EX) ∧ w'.cell? ⟨v13.heap.size, 0, none⟩ = some (.bool (ngB (od C))) ∧ w'.cell? ⟨v13.heap.size, 1, none⟩ = some (.slice A5 n5 c5) ∧ w'.cell? ⟨v13.heap.size, 2, none⟩ = some (.int .i64 EC) ∧ w'.cell? ⟨v15.heap.size, 0, none⟩ = some (.bool (ngB (C - F))) ∧ w'.cell? ⟨v15.heap.size, 1, none⟩ = some (.slice A6 n6 c6)) (first | (with_reducible exact ⟨x_l.c0, x_l.c1, x_l.c2, x_x.c0, x_x.c1, x_x.c2, x_h.c0, x_h.c1, x_h.c2, x_g.c0, x_g.c1⟩) | (with_reducible exact ⟨(x_l.aside (by omega)).c0, (x_l.aside (by omega)).c1, (x_l.aside (by omega)).c2, (x_x.aside (by omega)).c0, (x_x.aside (by omega)).c1, (x_x.aside (by omega)).c2, (x_h.aside (by omega)).c0, (x_h.aside (by omega)).c1, (x_h.aside (by omega)).c2, (x_g.aside (by omega)).c0, (x_g.aside (by omega)).c1⟩) | (with_reducible exact ⟨((x_l.aside (by omega)).aside (by omega)).c0, ((x_l.aside (by omega)).aside (by omega)).c1, ((x_l.aside (by omega)).aside (by omega)).c2, ((x_x.aside (by omega)).aside (by omega)).c0, ((x_x.aside (by omega)).aside (by omega)).c1, ((x_x.aside (by omega)).aside (by omega)).c2, ((x_h.aside (by omega)).aside (by omega)).c0, ((x_h.aside (by omega)).aside (by omega)).c1, ((x_h.aside (by omega)).aside (by omega)).c2, ((x_g.aside (by omega)).aside (by omega)).c0, ((x_g.aside (by omega)).aside (by omega)).c1⟩) | (with_reducible exact ⟨(x_l.asideD (by omega)).c0, (x_l.asideD (by omega)).c1, (x_l.asideD (by omega)).c2, (x_x.asideD (by omega)).c0, (x_x.asideD (by omega)).c1, (x_x.asideD (by omega)).c2, (x_h.asideD (by omega)).c0, (x_h.asideD (by omega)).c1, (x_h.asideD (by omega)).c2, (x_g.asideD (by omega)).c0, (x_g.asideD (by omega)).c1⟩) | (with_reducible exact ⟨((x_l.asideD (by omega)).asideD (by omega)).c0, ((x_l.asideD (by omega)).asideD (by omega)).c1, ((x_l.asideD (by omega)).asideD (by omega)).c2, ((x_x.asideD (by omega)).asideD (by omega)).c0, ((x_x.asideD (by omega)).asideD (by omega)).c1, ((x_x.asideD (by omega)).asideD (by omega)).c2, ((x_h.asideD (by omega)).asideD (by omega)).c0, ((x_h.asideD (by omega)).asideD (by omega)).c1, ((x_h.asideD (by omega)).asideD (by omega)).c2, ((x_g.asideD (by omega)).asideD (by omega)).c0, ((x_g.asideD (by omega)).asideD (by omega)).c1⟩) | go_keep) (first | (go_at_call 20; (with_reducible refine (DCmp_any zl.drw.zr zx.drw.zr (by omega) (by omega)).mono ?_); rintro e v18 ⟨rfl, hb1⟩; replace hb1 := undrew hb1; replace x_a := x_a.keep hb1; replace x_f := x_f.keep hb1; replace x_c := x_c.keep hb1; replace x_x := x_x.keep hb1; replace x_l := x_l.keep hb1; replace x_h := x_h.keep hb1; replace x_g := x_g.keep hb1; replace hT := hT.keep hb1; replace za := za.keep hb1; replace zf := zf.keep hb1; replace zc := zc.keep hb1; replace zx := zx.keep hb1; replace zl := zl.keep hb1; replace zh := zh.keep hb1; replace zg := zg.keep hb1; replace hb := bthen hb hb1; clear hb1; replace q_a0 := x_a.c0; replace q_a1 := x_a.c1; replace f_a0 := x_a.fr 0; replace f_a1 := x_a.fr 1; replace q_a2 := x_a.c2; replace f_a2 := x_a.fr 2; replace q_f0 := x_f.c0; replace q_f1 := x_f.c1; replace f_f0 := x_f.fr 0; replace f_f1 := x_f.fr 1; replace q_c0 := x_c.c0; replace q_c1 := x_c.c1; replace f_c0 := x_c.fr 0; replace f_c1 := x_c.fr 1; replace q_x0 := x_x.c0; replace q_x1 := x_x.c1; replace f_x0 := x_x.fr 0; replace f_x1 := x_x.fr 1; replace q_x2 := x_x.c2; replace f_x2 := x_x.fr 2; replace q_l0 := x_l.c0; replace q_l1 := x_l.c1; replace f_l0 := x_l.fr 0; replace f_l1 := x_l.fr 1; replace q_l2 := x_l.c2; replace f_l2 := x_l.fr 2; replace q_h0 := x_h.c0; replace q_h1 := x_h.c1; replace f_h0 := x_h.fr 0; replace f_h1 := x_h.fr 1; replace q_h2 := x_h.c2; replace f_h2 := x_h.fr 2; replace q_g0 := x_g.c0; replace q_g1 := x_g.c1; replace f_g0 := x_g.fr 0; replace f_g1 := x_g.fr 1; rw [HS1.out]) | (go_at_call 20; (with_reducible refine (DCmp_any zx.zr zh.zr (by omega) (by omega)).mono ?_); rintro e v19 ⟨rfl, hb1⟩; replace x_a := x_a.keep hb1; replace x_f := x_f.keep hb1; replace x_c := x_c.keep hb1; replace x_x := x_x.keep hb1; replace x_l := x_l.keep hb1; replace x_h := x_h.keep hb1; replace x_g := x_g.keep hb1; replace hT := hT.keep hb1; replace za := za.keep hb1; replace zf := zf.keep hb1; replace zc := zc.keep hb1; replace zx := zx.keep hb1; replace zl := zl.keep hb1; replace zh := zh.keep hb1; replace zg := zg.keep hb1; replace hb := bthen hb hb1; clear hb1; replace q_a0 := x_a.c0; replace q_a1 := x_a.c1; replace f_a0 := x_a.fr 0; replace f_a1 := x_a.fr 1; replace q_a2 := x_a.c2; replace f_a2 := x_a.fr 2; replace q_f0 := x_f.c0; replace q_f1 := x_f.c1; replace f_f0 := x_f.fr 0; replace f_f1 := x_f.fr 1; replace q_c0 := x_c.c0; replace q_c1 := x_c.c1; replace f_c0 := x_c.fr 0; replace f_c1 := x_c.fr 1; replace q_x0 := x_x.c0; replace q_x1 := x_x.c1; replace f_x0 := x_x.fr 0; replace f_x1 := x_x.fr 1; replace q_x2 := x_x.c2; replace f_x2 := x_x.fr 2; replace q_l0 := x_l.c0; replace q_l1 := x_l.c1; replace f_l0 := x_l.fr 0; replace f_l1 := x_l.fr 1; replace q_l2 := x_l.c2; replace f_l2 := x_l.fr 2; replace q_h0 := x_h.c0; replace q_h1 := x_h.c1; replace f_h0 := x_h.fr 0; replace f_h1 := x_h.fr 1; replace q_h2 := x_h.c2; replace f_h2 := x_h.fr 2; replace q_g0 := x_g.c0; replace q_g1 := x_g.c1; replace f_g0 := x_g.fr 0; replace f_g1 := x_g.fr 1; rw [HS2.out]) | (go_at_call 40; (with_reducible refine (ZSign_any zg.zr (by omega)).mono ?_); rintro e v20 ⟨rfl, hb1⟩; replace x_a := x_a.keep hb1; replace x_f := x_f.keep hb1; replace x_c := x_c.keep hb1; replace x_x := x_x.keep hb1; replace x_l := x_l.keep hb1; replace x_h := x_h.keep hb1; replace x_g := x_g.keep hb1; replace hT := hT.keep hb1; replace za := za.keep hb1; replace zf := zf.keep hb1; replace zc := zc.keep hb1; replace zx := zx.keep hb1; replace zl := zl.keep hb1; replace zh := zh.keep hb1; replace zg := zg.keep hb1; replace hb := bthen hb hb1; clear hb1; replace q_a0 := x_a.c0; replace q_a1 := x_a.c1; replace f_a0 := x_a.fr 0; replace f_a1 := x_a.fr 1; replace q_a2 := x_a.c2; replace f_a2 := x_a.fr 2; replace q_f0 := x_f.c0; replace q_f1 := x_f.c1; replace f_f0 := x_f.fr 0; replace f_f1 := x_f.fr 1; replace q_c0 := x_c.c0; replace q_c1 := x_c.c1; replace f_c0 := x_c.fr 0; replace f_c1 := x_c.fr 1; replace q_x0 := x_x.c0; replace q_x1 := x_x.c1; replace f_x0 := x_x.fr 0; replace f_x1 := x_x.fr 1; replace q_x2 := x_x.c2; replace f_x2 := x_x.fr 2; replace q_l0 := x_l.c0; replace q_l1 := x_l.c1; replace f_l0 := x_l.fr 0; replace f_l1 := x_l.fr 1; replace q_l2 := x_l.c2; replace f_l2 := x_l.fr 2; replace q_h0 := x_h.c0; replace q_h1 := x_h.c1; replace f_h0 := x_h.fr 0; replace f_h1 := x_h.fr 1; replace q_h2 := x_h.c2; replace f_h2 := x_h.fr 2; replace q_g0 := x_g.c0; replace q_g1 := x_g.c1; replace f_g0 := x_g.fr 0; replace f_g1 := x_g.fr 1; rw [HS3.out]) | (go_at_call 42; (with_reducible refine (ZOf_any 1 (by omega) (by omega)).mono ?_); rintro e v21 ⟨A7, n7, c7, rfl, z1, hb1⟩; replace x_a := x_a.keep hb1; replace x_f := x_f.keep hb1; replace x_c := x_c.keep hb1; replace x_x := x_x.keep hb1; replace x_l := x_l.keep hb1; replace x_h := x_h.keep hb1; replace x_g := x_g.keep hb1; replace hT := hT.keep hb1; replace za := za.keep hb1; replace zf := zf.keep hb1; replace zc := zc.keep hb1; replace zx := zx.keep hb1; replace zl := zl.keep hb1; replace zh := zh.keep hb1; replace zg := zg.keep hb1; replace hb := bthen hb hb1; clear hb1; replace q_a0 := x_a.c0; replace q_a1 := x_a.c1; replace f_a0 := x_a.fr 0; replace f_a1 := x_a.fr 1; replace q_a2 := x_a.c2; replace f_a2 := x_a.fr 2; replace q_f0 := x_f.c0; replace q_f1 := x_f.c1; replace f_f0 := x_f.fr 0; replace f_f1 := x_f.fr 1; replace q_c0 := x_c.c0; replace q_c1 := x_c.c1; replace f_c0 := x_c.fr 0; replace f_c1 := x_c.fr 1; replace q_x0 := x_x.c0; replace q_x1 := x_x.c1; replace f_x0 := x_x.fr 0; replace f_x1 := x_x.fr 1; replace q_x2 := x_x.c2; replace f_x2 := x_x.fr 2; replace q_l0 := x_l.c0; replace q_l1 := x_l.c1; replace f_l0 := x_l.fr 0; replace f_l1 := x_l.fr 1; replace q_l2 := x_l.c2; replace f_l2 := x_l.fr 2; replace q_h0 := x_h.c0; replace q_h1 := x_h.c1; replace f_h0 := x_h.fr 0; replace f_h1 := x_h.fr 1; replace q_h2 := x_h.c2; replace f_h2 := x_h.fr 2; replace q_g0 := x_g.c0; replace q_g1 := x_g.c1; replace f_g0 := x_g.fr 0; replace f_g1 := x_g.fr 1) | (go_at_call 41; (with_reducible refine (ZCmp_any zg.zr z1.zr (by omega) (by omega)).mono ?_); rintro e v22 ⟨rfl, hb1⟩; replace x_a := x_a.keep hb1; replace x_f := x_f.keep hb1; replace x_c := x_c.keep hb1; replace x_x := x_x.keep hb1; replace x_l := x_l.keep hb1; replace x_h := x_h.keep hb1; replace x_g := x_g.keep hb1; replace hT := hT.keep hb1; replace za := za.keep hb1; replace zf := zf.keep hb1; replace zc := zc.keep hb1; replace zx := zx.keep hb1; replace zl := zl.keep hb1; replace zh := zh.keep hb1; replace zg := zg.keep hb1; replace z1 := z1.keep hb1; replace hb := bthen hb hb1; clear hb1; replace q_a0 := x_a.c0; replace q_a1 := x_a.c1; replace f_a0 := x_a.fr 0; replace f_a1 := x_a.fr 1; replace q_a2 := x_a.c2; replace f_a2 := x_a.fr 2; replace q_f0 := x_f.c0; replace q_f1 := x_f.c1; replace f_f0 := x_f.fr 0; replace f_f1 := x_f.fr 1; replace q_c0 := x_c.c0; replace q_c1 := x_c.c1; replace f_c0 := x_c.fr 0; replace f_c1 := x_c.fr 1; replace q_x0 := x_x.c0; replace q_x1 := x_x.c1; replace f_x0 := x_x.fr 0; replace f_x1 := x_x.fr 1; replace q_x2 := x_x.c2; replace f_x2 := x_x.fr 2; replace q_l0 := x_l.c0; replace q_l1 := x_l.c1; replace f_l0 := x_l.fr 0; replace f_l1 := x_l.fr 1; replace q_l2 := x_l.c2; replace f_l2 := x_l.fr 2; replace q_h0 := x_h.c0; replace q_h1 := x_h.c1; replace f_h0 := x_h.fr 0; replace f_h1 := x_h.fr 1; replace q_h2 := x_h.c2; replace f_h2 := x_h.fr 2; replace q_g0 := x_g.c0; replace q_g1 := x_g.c1; replace f_g0 := x_g.fr 0; replace f_g1 := x_g.fr 1; rw [HS4.out]))) | fail
  all_goals go_wp2
  all_goals go_ret
  all_goals exact ⟨by simp, hb⟩
end
end Go.Proofs.YtcoidcbbdibnaaaDoor
namespace Go.Proofs.YtcoidcbbdibnaaaDoor
section
open Go.Joins Go.ChangeShapes Go.WideShapes Go.ChangeAt Go.RowKit
set_option linter.unusedVariables false

set_option maxRecDepth 100000 in
theorem DyadBetween_lifted (os : Go.Os) (started : os.Started) (H : Type) (enc : TypeId × Value → H) :
    ReturnsInHanded {} Tryd.checked os 7 .any (fun w args => (Rows.dyadBetweenSpec.pre enc Tryd.prog Tryd.f7 [] false w args ∧ laidMetH Tryd.prog laidT w) ∧ sizedMet enc Tryd.prog Tryd.f7 (OpenSpec.ofChange Rows.dyadBetweenSpec) false w args)
      (Rows.dyadBetweenSpec.post enc Tryd.prog Tryd.f7 false true false false) := by
  refine returnsInHanded_of_change_and (C := Tryd.checked) (X := fun w _ => laidMetH Tryd.prog laidT w) (fun _ _ _ hh h => h.of_heap hh) Tryd.own started (by kernel_rfl) Tryd.func7
    (ChangeSpec.witness_shaped (enc := enc) (C := Tryd.checked) (os := os) (X := fun w _ => laidMetH Tryd.prog laidT w) false (World.doorLaid Tryd.prog 400 os) #[.agg #[.bool false, .slice none 0 0, .int .i64 0], .int .i64 0] 8 rfl (World.shaped_of_RefB (by kernel_rfl) (by kernel_rfl)) (by kernel_rfl) (by kernel_rfl) (by kernel_rfl) (door_met os _)) ?_
  intro W base args ds gs before hval0 hW _ hsz0 hL _
  have hsz : (DataW.weightsEach Tryd.prog (Tryd.f7.params.toList ++ Rows.dyadBetweenSpec.plain.varTypes Tryd.prog) (ds ++ gs)).all (· ≤ reachBytes) = true := hsz0
  clear hsz0
  have hval : ∀ (j : Nat) t v, Tryd.f7.params[j]? = some t → args[j]? = some v → Value.okWide Tryd.prog W .any base t v := hval0
  have hW' := hW
  obtain ⟨p, q, hA0, hV, rfl, _, _⟩ := hW
  have hA : DataW.TrodAll enc Tryd.prog W 0 (fun _ => true) true Tryd.f7.params.toList args.toList ds p := hA0
  rw [Tryd.params7] at hA hval hsz
  obtain ⟨v0, vs0, d0, ds0, p0, q0, hargs, rfl, rfl, h0, r0⟩ := trodAll_cons hA
  obtain ⟨v1, vs1, d1, ds1, p1, q1, rfl, rfl, rfl, h1, r1⟩ := trodAll_cons r0
  obtain ⟨rfl, rfl, rfl⟩ := trodAll_nil r1
  obtain rfl : args = #[v0, v1] := by cases args; simp_all
  obtain ⟨rfl, rfl⟩ := trodVars_none hV
  clear hA0 hval0 hA
  simp only [List.append_nil] at hW'
  have hlt0 : ∀ x ∈ p0, x.block < W.heap.size := fun x hx => by simpa using hW'.lt x (by simp [hx])
  have hlt1 : ∀ x ∈ p1, x.block < W.heap.size := fun x hx => by simpa using hW'.lt x (by simp [hx])
  have hback0 : ∀ W' : World, Below W.heap.size W W' → DataW.Trod enc Tryd.prog W' 0 (fun b => decide (b < W.heap.size)) true 26 v0 d0 p0 :=
    fun W' hn => Below.trod Tryd.laidOut (by kernel_rfl) (of_decide_eq_true (by kernel_rfl)) h0 hn hlt0
  obtain ⟨b0, A0, n0, c0, l0, e0, rfl, g0, ge0⟩ := open_d (hval 0 26 v0 rfl rfl) h0 hlt0 (fun dd de elems spare hd => sized_dmag hsz (j := 0) (d0 := dd) (d1 := de) rfl (by simp [hd]))
  obtain ⟨x1, rfl, rfl, rfl, wx1⟩ := open_int Tryd.underlying3 (hval 1 3 v1 rfl rfl) h1
  refine (DyadBetween_any (tab_of_laid hL) g0 (bounds_int wx1)).mono fun e W' ⟨he, hb⟩ => ?_
  subst he
  exact ⟨_, rfl, _, _, _, [], _, [], hW', trodAll_mk1 (shut_bool Tryd.underlying4 _), (trodAll_cons_mk (hback0 _ hb) (trodAll_cons_mk (shut_int Tryd.underlying3 wx1) trodAll_mk0)), rfl, hb.frame _, fun h => by cases h⟩

theorem DyadBetween_row : Rows.DyadBetweenSaid :=
  OpenClaim.holds_of_wide 7 Tryd.f7 rfl rfl rfl rfl rfl rfl rfl ⟨rfl, rfl, rfl, rfl, rfl⟩ rfl rfl rfl rfl rfl (by kernel_rfl) Tryd.func7 (by kernel_rfl)
    (of_decide_eq_true (by kernel_rfl)) (by unfold Func.isWrapper; first | (rw [if_pos (by decide +kernel)]; kernel_rfl) | (rw [if_neg (by decide +kernel)]; exact ⟨rfl, rfl⟩))
    (fun os started H enc _ => DyadBetween_lifted os started H enc)
set_option maxRecDepth 100000 in
theorem DyadBetween_holds : Rows.DyadBetweenCardSaid :=
  Claim7.holds_tied_plain_at .later [] [.data] true (true, "785c6cfebb1c4402e6dac8b8a0f000d6c160c57ee8e09e1552b177c778bf7ab1") false
    DyadBetween_row (fun _ h => by cases h) (by kernel_rfl) (fun _ h => by cases h) dyadBetween_row_tie rfl ⟨rfl, rfl⟩ (by kernel_rfl) rfl
    (fun f fn hf hfn => by
      obtain rfl : f = 7 := Option.some.inj ((show Tryd.prog.funcNamed "hairline/hairlinelaw03.DyadBetween" = some 7 by kernel_rfl).symm.trans hf) |>.symm
      obtain rfl : fn = Tryd.f7 := (Option.some.inj (Tryd.func7.symm.trans hfn)).symm
      exact ⟨by kernel_rfl, fun j t ht => by
        rw [Tryd.params7] at ht
        have hm : t ∈ [26, 3] := by simpa using Array.mem_of_getElem? ht
        have hall : ([26, 3].all fun u => !Tryd.prog.wantsStandIn u) = true := by kernel_rfl
        exact (show Tryd.prog.wantsStandIn t = false by simpa using List.all_eq_true.1 hall t hm)⟩)
    (by kernel_rfl)
end
end Go.Proofs.YtcoidcbbdibnaaaDoor
