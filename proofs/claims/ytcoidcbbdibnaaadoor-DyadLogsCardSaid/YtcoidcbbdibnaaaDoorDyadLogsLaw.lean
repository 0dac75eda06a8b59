/-
  The law DyadLogs holds: for every input the call returns true, and each argument reads afterwards as it read before; the table of math/bits reads as the program's text lays it (the card ties it). No other condition.
-/
import Derived.Test.YtcoidcbbdibnaaaDoorSmall
import Derived.ProofKit
import Derived.SizedLaws
import Derived.OpenShut
import Derived.Test.YtcoidcbbdibnaaaDoorZint
import Derived.Lib.SmallJoins
import Derived.Test.YtcoidcbbdibnaaaDoorDint
import Derived.Test.YtcoidcbbdibnaaaDoorCards
import Derived.Test.YtcoidcbbdibnaaaDoorTie
import Derived.LaidMore
import Derived.SevenTiedAt
import Derived.Test.YtcoidcbbdibnaaaDoorDvd
import Derived.Test.YtcoidcbbdibnaaaDoorDshown
import Derived.Test.YtcoidcbbdibnaaaDoorDsmall
namespace Go.Proofs.YtcoidcbbdibnaaaDoor
section
open Go.ChangeShapes Go.WideShapes Go.ChangeAt Go.RowKit
set_option linter.unusedVariables false

theorem Tryd.own : ownKnob Tryd.prog.godebug = none := by kernel_rfl
theorem Tryd.laidOut : laidOutB Tryd.prog = true := by kernel_rfl
theorem Tryd.cells64 : Tryd.prog.cellsOf 31 = 1 := by kernel_rfl
theorem Tryd.bytes64 : Tryd.prog.bytesOf 31 = 8 := by kernel_rfl

theorem wf_lm {n : Int} (h : (Lit.int .u64 n).wf = true) : 0 ≤ n ∧ n < (Wd : Int) := by
  simp only [Lit.wf, Bool.and_eq_true, decide_eq_true_eq] at h
  have h1 : IntKind.u64.min = 0 := rfl
  have h2 : IntKind.u64.max = 18446744073709551615 := rfl
  rw [Wd_eq]; omega
theorem bounds_int {n : Int} (h : (Lit.int .i64 n).wf = true) : -9223372036854775808 ≤ n ∧ n ≤ 9223372036854775807 := by
  simp only [Lit.wf, Bool.and_eq_true, decide_eq_true_eq] at h
  have h1 : IntKind.i64.min = -9223372036854775808 := rfl
  have h2 : IntKind.i64.max = 9223372036854775807 := rfl
  omega

/-- A slice of limbs that came in. -/
theorem open_rd {H : Type} {enc : TypeId × Value → H} {W : World} {base : Nat} {v : Value} {d : DataW H} {ps : List MemPlace} (hok : Value.okWide Tryd.prog W .any base 22 v)
    (h : DataW.Trod enc Tryd.prog W 0 (fun _ => true) true 22 v d ps) (hlt : ∀ x ∈ ps, x.block < W.heap.size)
    (hsz : ∀ elems spare, d = .slice elems spare → (elems.length + spare.length) * Tryd.prog.bytesOf 31 ≤ reachBytes) : ∃ A n c l, v = .slice A n c ∧ Rd W W.heap.size A n c l := by
  obtain ⟨a0, len, cap, rfl⟩ := okWide_slice Tryd.underlying22 hok
  obtain ⟨fuel, hf⟩ := h
  rcases open_ints Tryd.underlying22 Tryd.underlying31 Tryd.cells64 hf with ⟨hcs, hx⟩ | ⟨a, len', cap', zs, hcs, _, hl, hm, hz, hx, hcell, hwz⟩
  · simp [Value.cells] at hcs
    obtain ⟨rfl, rfl, rfl⟩ := hcs
    exact ⟨_, _, _, [], rfl, Rd.nil⟩
  · simp [Value.cells] at hcs
    obtain ⟨rfl, rfl, rfl⟩ := hcs
    simp only [Prod.mk.injEq] at hx
    obtain ⟨rfl, rfl⟩ := hx
    simp only [if_true] at hz
    have hreach := hsz _ _ rfl
    rw [Tryd.bytes64] at hreach
    simp only [lits, List.length_map, List.length_take, List.length_drop, reachBytes] at hreach
    have hzl : (zs.take len).length = len := by simp; omega
    refine ⟨_, _, _, zs.take len, rfl, hzl, hl, by omega, fun x hx => wf_lm (hwz x (List.mem_of_mem_take hx)), fun hn => ?_⟩
    obtain ⟨b, off, spot⟩ := a
    have hspot : spot = none := by simpa [Addr.add] using World.cell?_spot (hcell 0 (by omega))
    subst hspot
    have hbW : b < W.heap.size := hlt (.cell b off) (MemPlace.mem_row.2 ⟨0, by omega, by simp⟩)
    refine ⟨b, off, rfl, hbW, fun k hk => ?_⟩
    have hk2 : k < zs.length := by omega
    rw [← add_plain, hcell k hk2, List.getElem_take]
    simp [List.getD, List.getElem?_eq_getElem hk2]
end
end Go.Proofs.YtcoidcbbdibnaaaDoor
namespace Go.Proofs.YtcoidcbbdibnaaaDoor
section
open Go.Joins Go.ChangeShapes Go.WideShapes Go.ChangeAt Go.RowKit
set_option linter.unusedVariables false

theorem Tryd.cellsInt : Tryd.prog.cellsOf 24 = 2 := by kernel_rfl

theorem sized_mag {H : Type} {ts : List TypeId} {ds : List (DataW H)} (h : (DataW.weightsEach Tryd.prog ts ds).all (· ≤ reachBytes) = true) {j : Nat} {d0 : DataW H} {elems spare : List (DataW H)} (ht : ts[j]? = some 24) (hd : ds[j]? = some (.agg [d0, .slice elems spare])) :
    (elems.length + spare.length) * Tryd.prog.bytesOf 31 ≤ reachBytes := by
  have := List.all_eq_true.1 h _ (DataW.weights_mem_each ht hd ((elems.length + spare.length) * Tryd.prog.bytesOf 31) (by simp [DataW.weights, DataW.weightsEach, Tryd.underlying24, Tryd.underlying22]))
  simpa using this

/-- An integer that came in. -/
theorem open_z {H : Type} {enc : TypeId × Value → H} {W : World} {base : Nat} {v : Value} {d : DataW H} {ps : List MemPlace} (hok : Value.okWide Tryd.prog W .any base 24 v)
    (h : DataW.Trod enc Tryd.prog W 0 (fun _ => true) true 24 v d ps) (hlt : ∀ x ∈ ps, x.block < W.heap.size)
    (hsz : ∀ d0 elems spare, d = .agg [d0, .slice elems spare] → (elems.length + spare.length) * Tryd.prog.bytesOf 31 ≤ reachBytes) : ∃ b A n c l, v = .agg #[.bool b, .slice A n c] ∧ Rd W W.heap.size A n c l := by
  obtain ⟨v0, v1, y0, y1, m, rfl, rfl, rfl, t0, t1⟩ := open_agg2 Tryd.underlying24 (by kernel_rfl) Tryd.cellsInt hok h
  obtain ⟨b, hb0, _⟩ := DataW.trod_bool Tryd.underlying4 t0
  injection hb0 with hb0 _
  subst hb0
  rcases open_ints Tryd.underlying22 Tryd.underlying31 Tryd.cells64 t1 with ⟨hcs, hx⟩ | ⟨a, len', cap', zs, hcs, _, hl, hm, hz, hx, hcell, hwz⟩
  · injection hcs with hcs _
    subst hcs
    exact ⟨b, _, _, _, [], rfl, Rd.nil⟩
  · injection hcs with hcs _
    subst hcs
    subst hx
    simp only [if_true] at hz
    have hreach := hsz _ _ _ rfl
    rw [Tryd.bytes64] at hreach
    simp only [lits, List.length_map, List.length_take, List.length_drop, reachBytes] at hreach
    have hzl : (zs.take len').length = len' := by simp; omega
    refine ⟨b, _, _, _, zs.take len', rfl, hzl, hl, by omega, fun x hx => wf_lm (hwz x (List.mem_of_mem_take hx)), fun hn => ?_⟩
    obtain ⟨b1, off, spot⟩ := a
    have hspot : spot = none := by simpa [Addr.add] using World.cell?_spot (hcell 0 (by omega))
    subst hspot
    have hbW : b1 < W.heap.size := hlt (.cell b1 off) (by rw [List.mem_append]; exact .inr (MemPlace.mem_row.2 ⟨0, by omega, by simp⟩))
    refine ⟨b1, off, rfl, hbW, fun k hk => ?_⟩
    have hk2 : k < zs.length := by omega
    rw [← add_plain, hcell k hk2, List.getElem_take]
    simp [List.getD, List.getElem?_eq_getElem hk2]
end
end Go.Proofs.YtcoidcbbdibnaaaDoor
namespace Go.Proofs.YtcoidcbbdibnaaaDoor
section
open Go.Joins Go.ChangeShapes Go.WideShapes Go.ChangeAt Go.RowKit
set_option linter.unusedVariables false

theorem Tryd.cellsDyad : Tryd.prog.cellsOf 26 = 3 := by kernel_rfl
theorem sized_dmag {H : Type} {ts : List TypeId} {ds : List (DataW H)} (h : (DataW.weightsEach Tryd.prog ts ds).all (· ≤ reachBytes) = true) {j : Nat} {d0 d1 : DataW H} {elems spare : List (DataW H)} (ht : ts[j]? = some 26) (hd : ds[j]? = some (.agg [.agg [d0, .slice elems spare], d1])) :
    (elems.length + spare.length) * Tryd.prog.bytesOf 31 ≤ reachBytes := by
  have := List.all_eq_true.1 h _ (DataW.weights_mem_each ht hd ((elems.length + spare.length) * Tryd.prog.bytesOf 31) (by simp [DataW.weights, DataW.weightsEach, Tryd.underlying26, Tryd.underlying24, Tryd.underlying22]))
  simpa using this
/-- A dyad that came in. -/
theorem open_d {H : Type} {enc : TypeId × Value → H} {W : World} {base : Nat} {v : Value} {d : DataW H} {ps : List MemPlace} (hok : Value.okWide Tryd.prog W .any base 26 v)
    (h : DataW.Trod enc Tryd.prog W 0 (fun _ => true) true 26 v d ps) (hlt : ∀ x ∈ ps, x.block < W.heap.size)
    (hsz : ∀ d0 d1 elems spare, d = .agg [.agg [d0, .slice elems spare], d1] → (elems.length + spare.length) * Tryd.prog.bytesOf 31 ≤ reachBytes) :
    ∃ b A n c l e, v = .agg #[.bool b, .slice A n c, .int .i64 e] ∧ Rd W W.heap.size A n c l ∧ (-9223372036854775808 ≤ e ∧ e ≤ 9223372036854775807) := by
  obtain ⟨cs, rfl, hcs⟩ := okWide_struct Tryd.underlying26 hok
  have hc3 : cs.size = 3 := hcs.trans Tryd.cellsDyad
  obtain ⟨fuel, hf⟩ := h
  obtain ⟨y0, y1, m, hx, _, t0, t1⟩ := trod_struct2 Tryd.underlying26 hf
  simp only [Prod.mk.injEq] at hx
  obtain ⟨rfl, rfl⟩ := hx
  obtain ⟨a0, a1, a2, rfl⟩ : ∃ a0 a1 a2, cs = #[a0, a1, a2] := by
    match cs, hc3 with
    | ⟨[a0, a1, a2]⟩, _ => exact ⟨a0, a1, a2, rfl⟩
  have hcI : Tryd.prog.cellsOf 24 = 2 := Tryd.cellsInt
  have hc1 : Tryd.prog.cellsOf 3 = 1 := by kernel_rfl
  simp only [Value.cells, hcI, hc1, List.drop_zero, List.take_succ_cons, List.take_zero, List.drop_succ_cons] at t0 t1
  obtain ⟨e, he1, he2, hwf⟩ := DataW.trod_int Tryd.underlying3 t1
  obtain ⟨z0, z1, m2, hy, _, s0, s1⟩ := trod_struct2 Tryd.underlying24 t0
  have hcb : Tryd.prog.cellsOf 4 = 1 := by kernel_rfl
  have hcs64 : Tryd.prog.cellsOf 22 = 1 := by kernel_rfl
  simp only [hcb, hcs64, List.drop_zero, List.take_succ_cons, List.take_zero, List.drop_succ_cons] at s0 s1
  obtain ⟨b, hb0, _⟩ := DataW.trod_bool Tryd.underlying4 s0
  injection hb0 with hb0 _
  subst hb0
  injection he1 with he1 _
  subst he1
  subst hy
  have hbd := bounds_int hwf
  rcases open_ints Tryd.underlying22 Tryd.underlying31 Tryd.cells64 s1 with ⟨hcs2, hx⟩ | ⟨a, len', cap', zs, hcs2, _, hl, hm, hz, hx, hcell, hwz⟩
  · injection hcs2 with hcs2 _
    subst hcs2
    exact ⟨b, _, _, _, [], e, rfl, Rd.nil, hbd⟩
  · injection hcs2 with hcs2 _
    subst hcs2
    subst hx
    simp only [if_true] at hz
    have hreach := hsz _ _ _ _ rfl
    rw [Tryd.bytes64] at hreach
    simp only [lits, List.length_map, List.length_take, List.length_drop, reachBytes] at hreach
    have hzl : (zs.take len').length = len' := by simp; omega
    refine ⟨b, _, _, _, zs.take len', e, rfl, ⟨hzl, hl, by omega, fun x hx => wf_lm (hwz x (List.mem_of_mem_take hx)), fun hn => ?_⟩, hbd⟩
    obtain ⟨b1, off, spot⟩ := a
    have hspot : spot = none := by simpa [Addr.add] using World.cell?_spot (hcell 0 (by omega))
    subst hspot
    have hbW : b1 < W.heap.size := hlt (.cell b1 off) (by simp only [List.mem_append]; exact .inl (.inr (MemPlace.mem_row.2 ⟨0, by omega, by simp⟩)))
    refine ⟨b1, off, rfl, hbW, fun k hk => ?_⟩
    have hk2 : k < zs.length := by omega
    rw [← add_plain, hcell k hk2, List.getElem_take]
    simp [List.getD, List.getElem?_eq_getElem hk2]
end
end Go.Proofs.YtcoidcbbdibnaaaDoor
namespace Go.Proofs.YtcoidcbbdibnaaaDoor
section
open Go.Joins Go.ChangeShapes Go.WideShapes Go.ChangeAt Go.RowKit
set_option linter.unusedVariables false
set_option maxRecDepth 100000

theorem Tryd.gTab : Tryd.prog.globalNamed "math/bits.deBruijn64tab" = some 0 := by kernel_rfl
theorem Tryd.tTab : (Tryd.prog.globals[0]?).map (·.type) = some 75 := by kernel_rfl
def laidT {H : Type} : List (String × DataW H) := [("math/bits.deBruijn64tab", Rows.laid_math_bits_deBruijn64tab)]
theorem door_met (os : Go.Os) (args : Array Value) : laidMetH Tryd.prog laidT ((World.doorLaid Tryd.prog 400 os).forCall (fun _ _ => 0) ⟨#[], args, []⟩).memory :=
  laidMetH_of_parts3 (fuel := 8) (laidMet_of_run' 8 (by kernel_rfl) (by kernel_rfl)) (by kernel_rfl) (by kernel_rfl)
theorem cells8 : Tryd.prog.cellsOf 5 = 1 := by kernel_rfl
theorem tab_of_laid {W : World} (h : laidMetH Tryd.prog laidT W) : Tab W := by
  rw [MakeChecks.laidMetH_plain _ _ _ (by kernel_rfl)] at h
  obtain ⟨ps, ⟨g0, t0, cs0, f0, p0, q0, hg0, ht0, hv0, hd0, _, _⟩, _, _⟩ := h
  obtain rfl := Option.some.inj (Tryd.gTab.symm.trans hg0)
  obtain rfl := Option.some.inj (Tryd.tTab.symm.trans ht0)
  obtain ⟨xs, m1, rfl, hx1, hlen, hn3, hel⟩ := DataW.trod_array Tryd.underlying75 hd0
  simp only [Prod.mk.injEq] at hx1
  have hL : (xs.map fun x => x.fst) = Lib.deBruijn64tab.map fun (n : Nat) => DataW.lit (.int .u8 (n : Int)) := by
    have h1 := hx1.1
    have h2 : (Rows.laid_math_bits_deBruijn64tab : DataW Unit) = DataW.agg (Lib.deBruijn64tab.map fun (n : Nat) => DataW.lit (.int .u8 (n : Int))) := by kernel_rfl
    rw [h2] at h1
    injection h1 with h1
    exact h1.symm
  have hlt : Lib.deBruijn64tab.length = 64 := by kernel_rfl
  refine ⟨fun j hj => ?_⟩
  have hj0 := hel j hj
  obtain ⟨x, hx⟩ : ∃ x, xs[j]? = some x := ⟨xs[j], List.getElem?_eq_getElem (by omega)⟩
  rw [hx] at hj0
  obtain ⟨k, e1, e2, _⟩ := DataW.trod_int Tryd.underlying5 hj0
  have h3 := congrArg (fun l => l[j]?) hL
  simp only [List.getElem?_map, hx, Option.map_some, e2] at h3
  rw [List.getElem?_eq_getElem (by omega)] at h3
  simp only [Option.map_some, Option.some.injEq, DataW.lit.injEq, Lit.int.injEq, true_and] at h3
  have h4 := World.var?_cell hg0 hv0 j
  rw [cells8, Nat.mul_one] at e1
  have h5 : cs0.toList[j]? = some (.int .u8 k) := by
    have := congrArg (fun l => l[0]?) e1
    simpa using this
  rw [Array.getElem?_toList] at h5
  rw [h5] at h4
  rw [h4, h3]
  simp [List.getD, hlt, hj]
end
end Go.Proofs.YtcoidcbbdibnaaaDoor
namespace Go.Proofs.YtcoidcbbdibnaaaDoor
section
open Go.RowKit
set_option linter.unusedVariables false

theorem bl_two {N : Nat} (h : 0 < N) : 2 ^ (bl N - 1) ≤ N ∧ N < 2 ^ bl N := by
  refine ⟨?_, lt_bl N⟩
  have hp := bl_pos h
  exact le_of_bl (k := bl N - 1) (by omega)
/-- A product's bits. -/
theorem bl_mul {N M : Nat} (hN : 0 < N) (hM : 0 < M) : bl (N * M) = bl N + bl M - 1 ∨ bl (N * M) = bl N + bl M := by
  have h1 := bl_two hN; have h2 := bl_two hM
  have p1 := bl_pos hN; have p2 := bl_pos hM
  have a : 2 ^ (bl N + bl M - 2) ≤ N * M := by
    rw [show bl N + bl M - 2 = (bl N - 1) + (bl M - 1) by omega, Nat.pow_add]; exact Nat.mul_le_mul h1.1 h2.1
  have b : N * M < 2 ^ (bl N + bl M) := by rw [Nat.pow_add]; exact Nat.mul_lt_mul'' h1.2 h2.2
  have c := bl_ge a
  have d := bl_le b
  omega
theorem bl_shl {N : Nat} (h : 0 < N) (k : Nat) : bl (N * 2 ^ k) = bl N + k := by
  have h1 := bl_two h
  have p1 := bl_pos h
  have a : 2 ^ (bl N - 1 + k) ≤ N * 2 ^ k := by rw [Nat.pow_add]; exact Nat.mul_le_mul_right _ h1.1
  have b : N * 2 ^ k < 2 ^ (bl N + k) := by rw [Nat.pow_add]; exact Nat.mul_lt_mul_of_pos_right h1.2 (Nat.two_pow_pos k)
  have c := bl_ge a
  have d := bl_le b
  omega
/-- The logarithm of a normal form is that of the number. -/
theorem lg_nf {X e : Int} (h : X ≠ 0) : lgI (od X) (nE X e) = e + bl X.natAbs - 1 := by
  unfold lgI
  rw [if_neg (od_ne h), nE_ne h]
  have h1 := congrArg Int.natAbs (tz_spec h).1
  rw [Int.natAbs_mul, pow_cast, Int.natAbs_natCast] at h1
  have h2 : 0 < (od X).natAbs := by have := od_ne h; omega
  have h3 := bl_shl h2 (tz X)
  rw [← h1] at h3
  omega
theorem lg_mul {X Y e f : Int} (hX : X ≠ 0) (hY : Y ≠ 0) : lgI (od (X * Y)) (nE (X * Y) (e + f)) = (e + bl X.natAbs - 1) + (f + bl Y.natAbs - 1) ∨ lgI (od (X * Y)) (nE (X * Y) (e + f)) = (e + bl X.natAbs - 1) + (f + bl Y.natAbs - 1) + 1 := by
  have hXY : X * Y ≠ 0 := fun h => by rw [Int.mul_eq_zero] at h; omega
  rw [lg_nf hXY, Int.natAbs_mul]
  have p1 := bl_pos (N := X.natAbs) (by omega)
  have p2 := bl_pos (N := Y.natAbs) (by omega)
  rcases bl_mul (N := X.natAbs) (M := Y.natAbs) (by omega) (by omega) with h | h <;> omega
theorem Bt.bl {X : Int} {k : Nat} (h : Bt X k) : bl X.natAbs ≤ k := bl_le h
theorem od_one : od 1 = 1 := by decide
theorem nE_one (e : Int) : nE 1 e = e := by unfold nE; rw [if_neg (by omega), show tz 1 = 0 from by decide]; omega
/-- A power of two is not above, the next one is. -/
theorem lg_between {X e : Int} (h : 0 < X) (he : In e) (h1 : In (e + bl X.natAbs - 1)) (h2 : In (e + bl X.natAbs)) :
    sgnI (vd 1 (e + bl X.natAbs - 1) - vd X e) ≤ 0 ∧ sgnI (vd X e - vd 1 (e + bl X.natAbs)) < 0 := by
  have hb := bl_two (N := X.natAbs) (by omega)
  have p1 := bl_pos (N := X.natAbs) (by omega)
  unfold In at *
  obtain ⟨N, rfl⟩ : ∃ N : Nat, X = N := ⟨X.toNat, by omega⟩
  rw [Int.natAbs_natCast] at *
  generalize bl N = β at *
  have e1 : vd 1 (e + β - 1) = ((2 ^ (β - 1) * 2 ^ (e + 4000).toNat : Nat) : Int) := by
    unfold vd; rw [Int.one_mul, pow_cast, ← Nat.pow_add]; congr 2; omega
  have e2 : vd 1 (e + β) = ((2 ^ β * 2 ^ (e + 4000).toNat : Nat) : Int) := by
    unfold vd; rw [Int.one_mul, pow_cast, ← Nat.pow_add]; congr 2; omega
  have e3 : vd (N : Int) e = ((N * 2 ^ (e + 4000).toNat : Nat) : Int) := by unfold vd; rw [Int.natCast_mul, pow_cast]
  rw [e1, e2, e3]
  have a := Nat.mul_le_mul_right (2 ^ (e + 4000).toNat) hb.1
  have b := Nat.mul_lt_mul_of_pos_right hb.2 (Nat.two_pow_pos (e + 4000).toNat)
  generalize 2 ^ (β - 1) * 2 ^ (e + 4000).toNat = u at *
  generalize 2 ^ β * 2 ^ (e + 4000).toNat = v at *
  generalize N * 2 ^ (e + 4000).toNat = t at *
  refine ⟨?_, sgnI_lt0.2 (by omega)⟩
  rcases Int.lt_or_le 0 (sgnI ((u : Int) - t)) with hc | hc
  · have := sgnI_gt0.1 hc; omega
  · exact hc

set_option maxRecDepth 100000 in
set_option maxHeartbeats 16000000 in
theorem DyadLogs_any {b b2 : Bool} {A A2 : Option Addr} {n c n2 c2 : Nat} {l l2 : List Int} {e f : Int} {w : World} (hT : Tab w) (h : Rd w w.heap.size A n c l) (h2 : Rd w w.heap.size A2 n2 c2 l2) :
    Calls Tryd.prog 8 #[.agg #[.bool b, .slice A n c, .int .i64 e], .agg #[.bool b2, .slice A2 n2 c2, .int .i64 f]] w fun e w' => e = .returned (.bool true) ∧ Below w.heap.size w w' := by
  go_enter Tryd.func8, Tryd.ntmps8
  go_wp2_with fail
  have x_a : Dx (w.alloc (.cells #[.bool b, .slice A n c, .int .i64 e] 26)) (w.heap.size) b A n c e := by have := Dx.new w b A n c e; simpa using this
  replace x_a := x_a.alloc (.cells #[.bool b2, .slice A2 n2 c2, .int .i64 f] 26)
  have x_b : Dx ((w.alloc (.cells #[.bool b, .slice A n c, .int .i64 e] 26)).alloc (.cells #[.bool b2, .slice A2 n2 c2, .int .i64 f] 26)) (w.heap.size + 1) b2 A2 n2 c2 f := by have := Dx.new (w.alloc (.cells #[.bool b, .slice A n c, .int .i64 e] 26)) b2 A2 n2 c2 f; simpa using this
  have hb : Below w.heap.size w ((w.alloc (.cells #[.bool b, .slice A n c, .int .i64 e] 26)).alloc (.cells #[.bool b2, .slice A2 n2 c2, .int .i64 f] 26)) := (Below.alloc (Below.alloc (Below.refl w.heap.size w) (by simp) (.cells #[.bool b, .slice A n c, .int .i64 e] 26)) (by simp) (.cells #[.bool b2, .slice A2 n2 c2, .int .i64 f] 26))
  generalize (w.alloc (.cells #[.bool b, .slice A n c, .int .i64 e] 26)).alloc (.cells #[.bool b2, .slice A2 n2 c2, .int .i64 f] 26) = v1 at *
  replace h := h.go hb
  replace h2 := h2.go hb
  replace hT := hT.keep hb
  have q_a0 := x_a.c0; have q_a1 := x_a.c1; have f_a0 := x_a.fr 0; have f_a1 := x_a.fr 1; have q_a2 := x_a.c2; have f_a2 := x_a.fr 2
  have q_b0 := x_b.c0; have q_b1 := x_b.c1; have f_b0 := x_b.fr 0; have f_b1 := x_b.fr 1; have q_b2 := x_b.c2; have f_b2 := x_b.fr 2
  go_wp2_with fail
  with_reducible refine (Dshown_any hT).mono ?_
  rintro e v2 ⟨rfl, hb1⟩
  replace x_a := x_a.keep hb1
  replace x_b := x_b.keep hb1
  replace h := h.go hb1
  replace h2 := h2.go hb1
  replace hT := hT.keep hb1
  replace hb := bthen hb hb1
  clear hb1
  replace q_a0 := x_a.c0; replace q_a1 := x_a.c1; replace f_a0 := x_a.fr 0; replace f_a1 := x_a.fr 1; replace q_a2 := x_a.c2; replace f_a2 := x_a.fr 2
  replace q_b0 := x_b.c0; replace q_b1 := x_b.c1; replace f_b0 := x_b.fr 0; replace f_b1 := x_b.fr 1; replace q_b2 := x_b.c2; replace f_b2 := x_b.fr 2
  go_wp2_with fail
  with_reducible refine (Dsmall_any h).mono ?_
  rintro e v3 ⟨Aa_, na_, ca_, A, rfl, za, hb1⟩
  replace x_a := x_a.keep hb1
  replace x_b := x_b.keep hb1
  replace h := h.go hb1
  replace h2 := h2.go hb1
  replace hT := hT.keep hb1
  replace hb := bthen hb hb1
  clear hb1
  replace q_a0 := x_a.c0; replace q_a1 := x_a.c1; replace f_a0 := x_a.fr 0; replace f_a1 := x_a.fr 1; replace q_a2 := x_a.c2; replace f_a2 := x_a.fr 2
  replace q_b0 := x_b.c0; replace q_b1 := x_b.c1; replace f_b0 := x_b.fr 0; replace f_b1 := x_b.fr 1; replace q_b2 := x_b.c2; replace f_b2 := x_b.fr 2
  clear h
  go_wp2_with fail
  replace x_b := x_b.asideD (b' := b) (A' := Aa_) (n' := na_) (c' := ca_) (e' := (e.tmod 600)) (g := w.heap.size) (by omega)
  replace h2 := h2.sputD (b' := b) (A' := Aa_) (n' := na_) (c' := ca_) (e' := (e.tmod 600)) x_a
  replace hT := hT.putD (b' := b) (A' := Aa_) (n' := na_) (c' := ca_) (e' := (e.tmod 600)) x_a
  replace za := za.putD (b' := b) (A' := Aa_) (n' := na_) (c' := ca_) (e' := (e.tmod 600)) x_a
  replace hb := put_belowD (g := w.heap.size) hb (by omega) (.bool b) (.slice Aa_ na_ ca_) (.int .i64 (e.tmod 600))
  replace x_a := x_a.put b Aa_ na_ ca_ (e.tmod 600)
  clear q_a0 q_a1 f_a0 f_a1 q_a2 f_a2 q_b0 q_b1 f_b0 f_b1 q_b2 f_b2
  generalize ((v3.setCell ⟨w.heap.size, 0, none⟩ (.bool b)).setCell ⟨w.heap.size, 1, none⟩ (.slice Aa_ na_ ca_)).setCell ⟨w.heap.size, 2, none⟩ (.int .i64 (e.tmod 600)) = v4 at *
  have q_a0 := x_a.c0; have q_a1 := x_a.c1; have f_a0 := x_a.fr 0; have f_a1 := x_a.fr 1; have q_a2 := x_a.c2; have f_a2 := x_a.fr 2
  have q_b0 := x_b.c0; have q_b1 := x_b.c1; have f_b0 := x_b.fr 0; have f_b1 := x_b.fr 1; have q_b2 := x_b.c2; have f_b2 := x_b.fr 2
  with_reducible refine (Dsmall_any h2).mono ?_
  rintro e v5 ⟨Ab_, nb_, cb_, B, rfl, zb, hb1⟩
  replace x_a := x_a.keep hb1
  replace x_b := x_b.keep hb1
  replace h2 := h2.go hb1
  replace hT := hT.keep hb1
  replace za := za.keep hb1
  replace hb := bthen hb hb1
  clear hb1
  replace q_a0 := x_a.c0; replace q_a1 := x_a.c1; replace f_a0 := x_a.fr 0; replace f_a1 := x_a.fr 1; replace q_a2 := x_a.c2; replace f_a2 := x_a.fr 2
  replace q_b0 := x_b.c0; replace q_b1 := x_b.c1; replace f_b0 := x_b.fr 0; replace f_b1 := x_b.fr 1; replace q_b2 := x_b.c2; replace f_b2 := x_b.fr 2
  clear h2
  go_wp2_with fail
  replace x_a := x_a.asideD (b' := b2) (A' := Ab_) (n' := nb_) (c' := cb_) (e' := (f.tmod 600)) (g := w.heap.size + 1) (by omega)
  replace hT := hT.putD (b' := b2) (A' := Ab_) (n' := nb_) (c' := cb_) (e' := (f.tmod 600)) x_b
  replace za := za.putD (b' := b2) (A' := Ab_) (n' := nb_) (c' := cb_) (e' := (f.tmod 600)) x_b
  replace zb := zb.putD (b' := b2) (A' := Ab_) (n' := nb_) (c' := cb_) (e' := (f.tmod 600)) x_b
  replace hb := put_belowD (g := w.heap.size + 1) hb (by omega) (.bool b2) (.slice Ab_ nb_ cb_) (.int .i64 (f.tmod 600))
  replace x_b := x_b.put b2 Ab_ nb_ cb_ (f.tmod 600)
  clear q_a0 q_a1 f_a0 f_a1 q_a2 f_a2 q_b0 q_b1 f_b0 f_b1 q_b2 f_b2
  generalize ((v5.setCell ⟨w.heap.size + 1, 0, none⟩ (.bool b2)).setCell ⟨w.heap.size + 1, 1, none⟩ (.slice Ab_ nb_ cb_)).setCell ⟨w.heap.size + 1, 2, none⟩ (.int .i64 (f.tmod 600)) = v6 at *
  have q_a0 := x_a.c0; have q_a1 := x_a.c1; have f_a0 := x_a.fr 0; have f_a1 := x_a.fr 1; have q_a2 := x_a.c2; have f_a2 := x_a.fr 2
  have q_b0 := x_b.c0; have q_b1 := x_b.c1; have f_b0 := x_b.fr 0; have f_b1 := x_b.fr 1; have q_b2 := x_b.c2; have f_b2 := x_b.fr 2
  have tia := tmod_in e 600 (by omega)
  obtain ⟨Ea, hEa⟩ : ∃ E, e.tmod 600 = E := ⟨_, rfl⟩
  simp only [hEa] at *
  clear hEa
  have ina : In Ea := ⟨by omega, by omega⟩
  obtain ⟨cma, cea⟩ := c_yes (X := A) ina
  have bta := Bt.of_si za.si
  have bla := bta.bl
  have HBTa := Lib.hid bta; clear bta
  have HCa : Hid (cM A Ea = A ∧ cE Ea = Ea) := Lib.hid ⟨cma, cea⟩
  have HINa := Lib.hid ina
  clear cma cea ina
  have tib := tmod_in f 600 (by omega)
  obtain ⟨Eb, hEb⟩ : ∃ E, f.tmod 600 = E := ⟨_, rfl⟩
  simp only [hEb] at *
  clear hEb
  have inb : In Eb := ⟨by omega, by omega⟩
  obtain ⟨cmb, ceb⟩ := c_yes (X := B) inb
  have btb := Bt.of_si zb.si
  have blb := btb.bl
  have HBTb := Lib.hid btb; clear btb
  have HCb : Hid (cM B Eb = B ∧ cE Eb = Eb) := Lib.hid ⟨cmb, ceb⟩
  have HINb := Lib.hid inb
  clear cmb ceb inb
  by_cases hA : A = 0
  · have l0 : lgI A Ea = 0 ∧ lgB A = false := ⟨by unfold lgI; rw [if_pos hA], by unfold lgB; simp [hA]⟩
    have HL0 := Lib.hid l0; clear l0
    have HSA := Lib.hid (sgnI_eq0.2 hA); clear hA
    skip
    with_reducible refine (DLog_any za (by omega)).mono ?_
    rintro e v7 ⟨rfl, hb1⟩
    replace x_a := x_a.keep hb1
    replace x_b := x_b.keep hb1
    replace hT := hT.keep hb1
    replace za := za.keep hb1
    replace zb := zb.keep hb1
    replace hb := bthen hb hb1
    clear hb1
    replace q_a0 := x_a.c0; replace q_a1 := x_a.c1; replace f_a0 := x_a.fr 0; replace f_a1 := x_a.fr 1; replace q_a2 := x_a.c2; replace f_a2 := x_a.fr 2
    replace q_b0 := x_b.c0; replace q_b1 := x_b.c1; replace f_b0 := x_b.fr 0; replace f_b1 := x_b.fr 1; replace q_b2 := x_b.c2; replace f_b2 := x_b.fr 2
    rw [HCa.out.1, HCa.out.2, HL0.out.1, HL0.out.2]
    cases hLB : lgB B
    · have HLB := Lib.hid hLB
      have HSB : Hid (sgnI B = 0) := Lib.hid (sgnI_eq0.2 (by unfold lgB at hLB; simpa using hLB))
      clear hLB
      go_wp2_with fail
      with_reducible refine (DLog_any zb (by omega)).mono ?_
      rintro e v8 ⟨rfl, hb1⟩
      replace x_a := x_a.keep hb1
      replace x_b := x_b.keep hb1
      replace hT := hT.keep hb1
      replace za := za.keep hb1
      replace zb := zb.keep hb1
      replace hb := bthen hb hb1
      clear hb1
      replace q_a0 := x_a.c0; replace q_a1 := x_a.c1; replace f_a0 := x_a.fr 0; replace f_a1 := x_a.fr 1; replace q_a2 := x_a.c2; replace f_a2 := x_a.fr 2
      replace q_b0 := x_b.c0; replace q_b1 := x_b.c1; replace f_b0 := x_b.fr 0; replace f_b1 := x_b.fr 1; replace q_b2 := x_b.c2; replace f_b2 := x_b.fr 2
      rw [HCb.out.1, HCb.out.2, HLB.out]
      go_wp2_with fail
      with_reducible refine (DSign_any za (by omega)).mono ?_
      rintro e v9 ⟨rfl, hb1⟩
      replace x_a := x_a.keep hb1
      replace x_b := x_b.keep hb1
      replace hT := hT.keep hb1
      replace za := za.keep hb1
      replace zb := zb.keep hb1
      replace hb := bthen hb hb1
      clear hb1
      replace q_a0 := x_a.c0; replace q_a1 := x_a.c1; replace f_a0 := x_a.fr 0; replace f_a1 := x_a.fr 1; replace q_a2 := x_a.c2; replace f_a2 := x_a.fr 2
      replace q_b0 := x_b.c0; replace q_b1 := x_b.c1; replace f_b0 := x_b.fr 0; replace f_b1 := x_b.fr 1; replace q_b2 := x_b.c2; replace f_b2 := x_b.fr 2
      rw [HCa.out.1, HSA.out]
      go_wp2_with fail
      with_reducible refine (DSign_any zb (by omega)).mono ?_
      rintro e v10 ⟨rfl, hb1⟩
      replace x_a := x_a.keep hb1
      replace x_b := x_b.keep hb1
      replace hT := hT.keep hb1
      replace za := za.keep hb1
      replace zb := zb.keep hb1
      replace hb := bthen hb hb1
      clear hb1
      replace q_a0 := x_a.c0; replace q_a1 := x_a.c1; replace f_a0 := x_a.fr 0; replace f_a1 := x_a.fr 1; replace q_a2 := x_a.c2; replace f_a2 := x_a.fr 2
      replace q_b0 := x_b.c0; replace q_b1 := x_b.c1; replace f_b0 := x_b.fr 0; replace f_b1 := x_b.fr 1; replace q_b2 := x_b.c2; replace f_b2 := x_b.fr 2
      rw [HCb.out.1, HSB.out]
      go_wp2
      go_ret
      exact ⟨rfl, hb⟩
    · have HLB := Lib.hid hLB; clear hLB
      go_wp2_with fail
      with_reducible refine (DLog_any zb (by omega)).mono ?_
      rintro e v8 ⟨rfl, hb1⟩
      replace x_a := x_a.keep hb1
      replace x_b := x_b.keep hb1
      replace hT := hT.keep hb1
      replace za := za.keep hb1
      replace zb := zb.keep hb1
      replace hb := bthen hb hb1
      clear hb1
      replace q_a0 := x_a.c0; replace q_a1 := x_a.c1; replace f_a0 := x_a.fr 0; replace f_a1 := x_a.fr 1; replace q_a2 := x_a.c2; replace f_a2 := x_a.fr 2
      replace q_b0 := x_b.c0; replace q_b1 := x_b.c1; replace f_b0 := x_b.fr 0; replace f_b1 := x_b.fr 1; replace q_b2 := x_b.c2; replace f_b2 := x_b.fr 2
      rw [HCb.out.1, HCb.out.2, HLB.out]
      go_wp2_with fail
      with_reducible refine (DSign_any za (by omega)).mono ?_
      rintro e v9 ⟨rfl, hb1⟩
      replace x_a := x_a.keep hb1
      replace x_b := x_b.keep hb1
      replace hT := hT.keep hb1
      replace za := za.keep hb1
      replace zb := zb.keep hb1
      replace hb := bthen hb hb1
      clear hb1
      replace q_a0 := x_a.c0; replace q_a1 := x_a.c1; replace f_a0 := x_a.fr 0; replace f_a1 := x_a.fr 1; replace q_a2 := x_a.c2; replace f_a2 := x_a.fr 2
      replace q_b0 := x_b.c0; replace q_b1 := x_b.c1; replace f_b0 := x_b.fr 0; replace f_b1 := x_b.fr 1; replace q_b2 := x_b.c2; replace f_b2 := x_b.fr 2
      rw [HCa.out.1, HSA.out]
      go_wp2
      go_ret
      exact ⟨rfl, hb⟩
  · have l0 : lgI A Ea = Ea + bl A.natAbs - 1 ∧ lgB A = true := ⟨by unfold lgI; rw [if_neg hA], by unfold lgB; simp [hA]⟩
    have HL0 := Lib.hid l0; clear l0
    by_cases hB : B = 0
    · have l1 : lgI B Eb = 0 ∧ lgB B = false := ⟨by unfold lgI; rw [if_pos hB], by unfold lgB; simp [hB]⟩
      have HL1 := Lib.hid l1; clear l1
      have HSB := Lib.hid (sgnI_eq0.2 hB); clear hB hA
      skip
      with_reducible refine (DLog_any za (by omega)).mono ?_
      rintro e v7 ⟨rfl, hb1⟩
      replace x_a := x_a.keep hb1
      replace x_b := x_b.keep hb1
      replace hT := hT.keep hb1
      replace za := za.keep hb1
      replace zb := zb.keep hb1
      replace hb := bthen hb hb1
      clear hb1
      replace q_a0 := x_a.c0; replace q_a1 := x_a.c1; replace f_a0 := x_a.fr 0; replace f_a1 := x_a.fr 1; replace q_a2 := x_a.c2; replace f_a2 := x_a.fr 2
      replace q_b0 := x_b.c0; replace q_b1 := x_b.c1; replace f_b0 := x_b.fr 0; replace f_b1 := x_b.fr 1; replace q_b2 := x_b.c2; replace f_b2 := x_b.fr 2
      rw [HCa.out.1, HCa.out.2, HL0.out.1, HL0.out.2]
      go_wp2_with fail
      with_reducible refine (DLog_any zb (by omega)).mono ?_
      rintro e v8 ⟨rfl, hb1⟩
      replace x_a := x_a.keep hb1
      replace x_b := x_b.keep hb1
      replace hT := hT.keep hb1
      replace za := za.keep hb1
      replace zb := zb.keep hb1
      replace hb := bthen hb hb1
      clear hb1
      replace q_a0 := x_a.c0; replace q_a1 := x_a.c1; replace f_a0 := x_a.fr 0; replace f_a1 := x_a.fr 1; replace q_a2 := x_a.c2; replace f_a2 := x_a.fr 2
      replace q_b0 := x_b.c0; replace q_b1 := x_b.c1; replace f_b0 := x_b.fr 0; replace f_b1 := x_b.fr 1; replace q_b2 := x_b.c2; replace f_b2 := x_b.fr 2
      rw [HCb.out.1, HCb.out.2, HL1.out.1, HL1.out.2]
      go_wp2_with fail
      with_reducible refine (DSign_any zb (by omega)).mono ?_
      rintro e v9 ⟨rfl, hb1⟩
      replace x_a := x_a.keep hb1
      replace x_b := x_b.keep hb1
      replace hT := hT.keep hb1
      replace za := za.keep hb1
      replace zb := zb.keep hb1
      replace hb := bthen hb hb1
      clear hb1
      replace q_a0 := x_a.c0; replace q_a1 := x_a.c1; replace f_a0 := x_a.fr 0; replace f_a1 := x_a.fr 1; replace q_a2 := x_a.c2; replace f_a2 := x_a.fr 2
      replace q_b0 := x_b.c0; replace q_b1 := x_b.c1; replace f_b0 := x_b.fr 0; replace f_b1 := x_b.fr 1; replace q_b2 := x_b.c2; replace f_b2 := x_b.fr 2
      rw [HCb.out.1, HSB.out]
      go_wp2
      go_ret
      exact ⟨rfl, hb⟩
    · have l1 : lgI B Eb = Eb + bl B.natAbs - 1 ∧ lgB B = true := ⟨by unfold lgI; rw [if_neg hB], by unfold lgB; simp [hB]⟩
      have HL1 := Lib.hid l1; clear l1
      have hlm := lg_mul (e := Ea) (f := Eb) hA hB
      have hpa := bl_pos (N := A.natAbs) (by omega)
      have hpb := bl_pos (N := B.natAbs) (by omega)
      have hnm : In (nE (A * B) (Ea + Eb)) := nE_in (HBTa.out.mul HBTb.out) (by omega) (by omega) (by omega)
      obtain ⟨cp, cq⟩ := c_yes (X := od (A * B)) hnm
      have HLM := Lib.hid hlm; have HCP : Hid (cM (od (A * B)) (nE (A * B) (Ea + Eb)) = od (A * B) ∧ cE (nE (A * B) (Ea + Eb)) = nE (A * B) (Ea + Eb)) := Lib.hid ⟨cp, cq⟩
      clear hlm hnm cp cq
      have i1 : In (Ea + bl A.natAbs - 1) := ⟨by omega, by omega⟩
      have i2 : In (Ea + bl A.natAbs) := ⟨by omega, by omega⟩
      obtain ⟨c1, c2⟩ := c_yes (X := 1) i1
      obtain ⟨c3, c4⟩ := c_yes (X := 1) i2
      have o1 : od (cM 1 (Ea + bl A.natAbs - 1)) = 1 := by rw [c1, od_one]
      have o2 : nE (cM 1 (Ea + bl A.natAbs - 1)) (cE (Ea + bl A.natAbs - 1)) = Ea + bl A.natAbs - 1 := by rw [c1, c2, nE_one]
      have o3 : od (cM 1 (Ea + bl A.natAbs)) = 1 := by rw [c3, od_one]
      have o4 : nE (cM 1 (Ea + bl A.natAbs)) (cE (Ea + bl A.natAbs)) = Ea + bl A.natAbs := by rw [c3, c4, nE_one]
      have HO := Lib.hid (And.intro (And.intro o1 o2) (And.intro o3 o4))
      have HI1 := Lib.hid i1; have HI2 := Lib.hid i2
      clear o1 o2 o3 o4 c1 c2 c3 c4 i1 i2
      have hsgA := sgnI_is A
      have w1 : IntKind.i64.wrap (Ea + bl A.natAbs - 1 + 1) = Ea + bl A.natAbs := by rw [wrap_in (by omega) (by omega)]; omega
      have w2 : IntKind.i64.wrap (Ea + bl A.natAbs - 1 + (Eb + bl B.natAbs - 1)) = Ea + bl A.natAbs - 1 + (Eb + bl B.natAbs - 1) := wrap_in (by omega) (by omega)
      have w3 : IntKind.i64.wrap (Ea + bl A.natAbs - 1 + (Eb + bl B.natAbs - 1) + 1) = Ea + bl A.natAbs - 1 + (Eb + bl B.natAbs - 1) + 1 := wrap_in (by omega) (by omega)
      rcases Int.lt_or_le A 0 with hneg | hpos
      · have HSA := Lib.hid (sgnI_lt0.2 hneg)
        have hvn : vd (od (-A)) (nE (-A) Ea) = vd (-A) Ea := vd_nf (by omega)
        have hin : In (nE (-A) Ea) := nE_in HBTa.out.neg (by omega) (by omega) (by omega)
        have hbw := lg_between (X := -A) (e := Ea) (by omega) HINa.out (by rw [Int.natAbs_neg]; exact HI1.out) (by rw [Int.natAbs_neg]; exact HI2.out)
        rw [Int.natAbs_neg, ← hvn] at hbw
        rw [← cmp_vd HI1.out hin, ← cmp_vd hin HI2.out] at hbw
        have HBW := Lib.hid hbw; clear hbw hA hB hneg hvn hin
        skip
        with_reducible refine (DLog_any za (by omega)).mono ?_
        rintro e v7 ⟨rfl, hb1⟩
        replace x_a := x_a.keep hb1
        replace x_b := x_b.keep hb1
        replace hT := hT.keep hb1
        replace za := za.keep hb1
        replace zb := zb.keep hb1
        replace hb := bthen hb hb1
        clear hb1
        replace q_a0 := x_a.c0; replace q_a1 := x_a.c1; replace f_a0 := x_a.fr 0; replace f_a1 := x_a.fr 1; replace q_a2 := x_a.c2; replace f_a2 := x_a.fr 2
        replace q_b0 := x_b.c0; replace q_b1 := x_b.c1; replace f_b0 := x_b.fr 0; replace f_b1 := x_b.fr 1; replace q_b2 := x_b.c2; replace f_b2 := x_b.fr 2
        rw [HCa.out.1, HCa.out.2, HL0.out.1, HL0.out.2]
        go_wp2_with fail
        with_reducible refine (DLog_any zb (by omega)).mono ?_
        rintro e v8 ⟨rfl, hb1⟩
        replace x_a := x_a.keep hb1
        replace x_b := x_b.keep hb1
        replace hT := hT.keep hb1
        replace za := za.keep hb1
        replace zb := zb.keep hb1
        replace hb := bthen hb hb1
        clear hb1
        replace q_a0 := x_a.c0; replace q_a1 := x_a.c1; replace f_a0 := x_a.fr 0; replace f_a1 := x_a.fr 1; replace q_a2 := x_a.c2; replace f_a2 := x_a.fr 2
        replace q_b0 := x_b.c0; replace q_b1 := x_b.c1; replace f_b0 := x_b.fr 0; replace f_b1 := x_b.fr 1; replace q_b2 := x_b.c2; replace f_b2 := x_b.fr 2
        rw [HCb.out.1, HCb.out.2, HL1.out.1, HL1.out.2]
        generalize hGA : Ea + ↑(bl A.natAbs) - 1 = GA at *
        generalize hGB : Eb + ↑(bl B.natAbs) - 1 = GB at *
        generalize hGC : Ea + ↑(bl A.natAbs) = GC at *
        clear hGB
        have y_a := (x_a.alloc (.cells #[.bool b, .slice Aa_ na_ ca_, .int .i64 Ea] 26)); have yq_a0 := y_a.c0; have yq_a1 := y_a.c1; have yq_a2 := y_a.c2
        have y_b := (x_b.alloc (.cells #[.bool b, .slice Aa_ na_ ca_, .int .i64 Ea] 26)); have yq_b0 := y_b.c0; have yq_b1 := y_b.c1; have yq_b2 := y_b.c2
        go_wp2_with fail
        clear y_a yq_a0 yq_a1 yq_a2 y_b yq_b0 yq_b1 yq_b2
        have hb1 := below_alloc v8 (.cells #[.bool b, .slice Aa_ na_ ca_, .int .i64 Ea] 26)
        have l_a_x := x_a.lt
        have l_b_x := x_b.lt
        have x_x := Dx.new v8 b Aa_ na_ ca_ Ea
        have e_x : w.heap.size ≤ v8.heap.size := hb.size
        replace x_a := x_a.keep hb1
        replace x_b := x_b.keep hb1
        replace hT := hT.keep hb1
        replace za := za.keep hb1
        replace zb := zb.keep hb1
        replace hb := bthen hb hb1
        clear hb1
        replace q_a0 := x_a.c0; replace q_a1 := x_a.c1; replace f_a0 := x_a.fr 0; replace f_a1 := x_a.fr 1; replace q_a2 := x_a.c2; replace f_a2 := x_a.fr 2
        replace q_b0 := x_b.c0; replace q_b1 := x_b.c1; replace f_b0 := x_b.fr 0; replace f_b1 := x_b.fr 1; replace q_b2 := x_b.c2; replace f_b2 := x_b.fr 2
        clear q_a0 q_a1 f_a0 f_a1 q_a2 f_a2 q_b0 q_b1 f_b0 f_b1 q_b2 f_b2
        generalize v8.alloc (.cells #[.bool b, .slice Aa_ na_ ca_, .int .i64 Ea] 26) = v9 at *
        have q_a0 := x_a.c0; have q_a1 := x_a.c1; have f_a0 := x_a.fr 0; have f_a1 := x_a.fr 1; have q_a2 := x_a.c2; have f_a2 := x_a.fr 2
        have q_b0 := x_b.c0; have q_b1 := x_b.c1; have f_b0 := x_b.fr 0; have f_b1 := x_b.fr 1; have q_b2 := x_b.c2; have f_b2 := x_b.fr 2
        have q_x0 := x_x.c0; have q_x1 := x_x.c1; have f_x0 := x_x.fr 0; have f_x1 := x_x.fr 1; have q_x2 := x_x.c2; have f_x2 := x_x.fr 2
        skip
        with_reducible refine (DSign_any za (by omega)).mono ?_
        rintro e v10 ⟨rfl, hb1⟩
        replace x_a := x_a.keep hb1
        replace x_b := x_b.keep hb1
        replace x_x := x_x.keep hb1
        replace hT := hT.keep hb1
        replace za := za.keep hb1
        replace zb := zb.keep hb1
        replace hb := bthen hb hb1
        clear hb1
        replace q_a0 := x_a.c0; replace q_a1 := x_a.c1; replace f_a0 := x_a.fr 0; replace f_a1 := x_a.fr 1; replace q_a2 := x_a.c2; replace f_a2 := x_a.fr 2
        replace q_b0 := x_b.c0; replace q_b1 := x_b.c1; replace f_b0 := x_b.fr 0; replace f_b1 := x_b.fr 1; replace q_b2 := x_b.c2; replace f_b2 := x_b.fr 2
        replace q_x0 := x_x.c0; replace q_x1 := x_x.c1; replace f_x0 := x_x.fr 0; replace f_x1 := x_x.fr 1; replace q_x2 := x_x.c2; replace f_x2 := x_x.fr 2
        rw [HCa.out.1]
        have hsx := HSA.out
        generalize sgnI A = sg at *
        go_wp2_with fail
        with_reducible refine (DNeg_any za hT 5 (by omega) (by omega)).mono ?_
        rintro e v11 ⟨Ax, nx, cx, rfl, zx, hb1⟩
        replace x_a := x_a.keep hb1
        replace x_b := x_b.keep hb1
        replace x_x := x_x.keep hb1
        replace hT := hT.keep hb1
        replace za := za.keep hb1
        replace zb := zb.keep hb1
        replace hb := bthen hb hb1
        clear hb1
        replace q_a0 := x_a.c0; replace q_a1 := x_a.c1; replace f_a0 := x_a.fr 0; replace f_a1 := x_a.fr 1; replace q_a2 := x_a.c2; replace f_a2 := x_a.fr 2
        replace q_b0 := x_b.c0; replace q_b1 := x_b.c1; replace f_b0 := x_b.fr 0; replace f_b1 := x_b.fr 1; replace q_b2 := x_b.c2; replace f_b2 := x_b.fr 2
        replace q_x0 := x_x.c0; replace q_x1 := x_x.c1; replace f_x0 := x_x.fr 0; replace f_x1 := x_x.fr 1; replace q_x2 := x_x.c2; replace f_x2 := x_x.fr 2
        rw [HCa.out.1] at zx ⊢
        rw [HCa.out.2]
        go_wp2_with fail
        replace x_a := x_a.asideD (b' := (ngB (od (-A)))) (A' := Ax) (n' := nx) (c' := cx) (e' := (nE (-A) Ea)) (g := v8.heap.size) (by omega)
        replace x_b := x_b.asideD (b' := (ngB (od (-A)))) (A' := Ax) (n' := nx) (c' := cx) (e' := (nE (-A) Ea)) (g := v8.heap.size) (by omega)
        replace hT := hT.putD (b' := (ngB (od (-A)))) (A' := Ax) (n' := nx) (c' := cx) (e' := (nE (-A) Ea)) x_x
        replace za := za.putD (b' := (ngB (od (-A)))) (A' := Ax) (n' := nx) (c' := cx) (e' := (nE (-A) Ea)) x_x
        replace zb := zb.putD (b' := (ngB (od (-A)))) (A' := Ax) (n' := nx) (c' := cx) (e' := (nE (-A) Ea)) x_x
        replace zx := zx.putD (b' := (ngB (od (-A)))) (A' := Ax) (n' := nx) (c' := cx) (e' := (nE (-A) Ea)) x_x
        replace hb := put_belowD (g := v8.heap.size) hb (by omega) (.bool (ngB (od (-A)))) (.slice Ax nx cx) (.int .i64 (nE (-A) Ea))
        replace x_x := x_x.put (ngB (od (-A))) Ax nx cx (nE (-A) Ea)
        clear q_a0 q_a1 f_a0 f_a1 q_a2 f_a2 q_b0 q_b1 f_b0 f_b1 q_b2 f_b2 q_x0 q_x1 f_x0 f_x1 q_x2 f_x2
        generalize ((v11.setCell ⟨v8.heap.size, 0, none⟩ (.bool (ngB (od (-A))))).setCell ⟨v8.heap.size, 1, none⟩ (.slice Ax nx cx)).setCell ⟨v8.heap.size, 2, none⟩ (.int .i64 (nE (-A) Ea)) = v12 at *
        have q_a0 := x_a.c0; have q_a1 := x_a.c1; have f_a0 := x_a.fr 0; have f_a1 := x_a.fr 1; have q_a2 := x_a.c2; have f_a2 := x_a.fr 2
        have q_b0 := x_b.c0; have q_b1 := x_b.c1; have f_b0 := x_b.fr 0; have f_b1 := x_b.fr 1; have q_b2 := x_b.c2; have f_b2 := x_b.fr 2
        have q_x0 := x_x.c0; have q_x1 := x_x.c1; have f_x0 := x_x.fr 0; have f_x1 := x_x.fr 1; have q_x2 := x_x.c2; have f_x2 := x_x.fr 2
        with_reducible refine (DMul_any za zb hT 8 (by omega) (by omega)).mono ?_
        rintro e v13 ⟨Am, nm, cm, rfl, zm, hb1⟩
        replace x_a := x_a.keep hb1
        replace x_b := x_b.keep hb1
        replace x_x := x_x.keep hb1
        replace hT := hT.keep hb1
        replace za := za.keep hb1
        replace zb := zb.keep hb1
        replace zx := zx.keep hb1
        replace hb := bthen hb hb1
        clear hb1
        replace q_a0 := x_a.c0; replace q_a1 := x_a.c1; replace f_a0 := x_a.fr 0; replace f_a1 := x_a.fr 1; replace q_a2 := x_a.c2; replace f_a2 := x_a.fr 2
        replace q_b0 := x_b.c0; replace q_b1 := x_b.c1; replace f_b0 := x_b.fr 0; replace f_b1 := x_b.fr 1; replace q_b2 := x_b.c2; replace f_b2 := x_b.fr 2
        replace q_x0 := x_x.c0; replace q_x1 := x_x.c1; replace f_x0 := x_x.fr 0; replace f_x1 := x_x.fr 1; replace q_x2 := x_x.c2; replace f_x2 := x_x.fr 2
        rw [HCa.out.1, HCb.out.1] at zm ⊢
        rw [HCa.out.2, HCb.out.2]
        go_wp2_with fail
        with_reducible refine (DLog_any zm.zr (by omega)).mono ?_
        rintro e v14 ⟨rfl, hb1⟩
        replace x_a := x_a.keep hb1
        replace x_b := x_b.keep hb1
        replace x_x := x_x.keep hb1
        replace hT := hT.keep hb1
        replace za := za.keep hb1
        replace zb := zb.keep hb1
        replace zx := zx.keep hb1
        replace zm := zm.keep hb1
        replace hb := bthen hb hb1
        clear hb1
        replace q_a0 := x_a.c0; replace q_a1 := x_a.c1; replace f_a0 := x_a.fr 0; replace f_a1 := x_a.fr 1; replace q_a2 := x_a.c2; replace f_a2 := x_a.fr 2
        replace q_b0 := x_b.c0; replace q_b1 := x_b.c1; replace f_b0 := x_b.fr 0; replace f_b1 := x_b.fr 1; replace q_b2 := x_b.c2; replace f_b2 := x_b.fr 2
        replace q_x0 := x_x.c0; replace q_x1 := x_x.c1; replace f_x0 := x_x.fr 0; replace f_x1 := x_x.fr 1; replace q_x2 := x_x.c2; replace f_x2 := x_x.fr 2
        rw [HCP.out.1, HCP.out.2]
        generalize lgI (od (A * B)) (nE (A * B) (Ea + Eb)) = kk at *
        clear zm
        have hfin : (kk == GA + GB || kk == GA + GB + 1) = true := by rcases HLM.out with h | h <;> simp [h]
        have HFIN := Lib.hid hfin; clear hfin
        obtain ⟨s1, hs1⟩ : ∃ s1, sgnI (alP 1 GA (nE (-A) Ea) - alQ (od (-A)) GA (nE (-A) Ea)) = s1 := ⟨_, rfl⟩
        obtain ⟨s2, hs2⟩ : ∃ s2, sgnI (alP (od (-A)) (nE (-A) Ea) GC - alQ 1 (nE (-A) Ea) GC) = s2 := ⟨_, rfl⟩
        have HS1 := Lib.hid hs1; have HS2 := Lib.hid hs2
        have hle : s1 ≤ 0 := by rw [← hs1]; exact HBW.out.1
        have hlt : s2 < 0 := by rw [← hs2]; exact HBW.out.2
        clear hs1 hs2
        rcases HLM.out with hkk | hkk
        · have hk1 : (kk == GA + GB) = true := by simp [hkk]
          clear HFIN hkk HLM
          go_wp2_with fail
          refine wp_region_held_drew (S := fun w' => w'.cell? ⟨v8.heap.size, 0, none⟩ = some (.bool (ngB (od (-A)))) ∧ w'.cell? ⟨v8.heap.size, 1, none⟩ = some (.slice Ax nx cx) ∧ w'.cell? ⟨v8.heap.size, 2, none⟩ = some (.int .i64 (nE (-A) Ea))) (by kernel_rfl) (by exact ⟨x_x.c0, x_x.c1, x_x.c2⟩) (fun hHeld => ?_)
          refine wpAnyH_take (i := 0) (oi := ({ dst := some 64, op := Op.move (Operand.tmp 5), type := 4, pos := "law.go:122", after := #[], guard := none } : Oper)) (v := ?_) rfl (by kernel_rfl) (by kernel_rfl) (by kernel_rfl) (fun _ _ _ h => h) (Or.inl ⟨by rfl, ?_⟩) (by assumption) ?_
          rotate_left
          · (intro w9 hSw; (try dsimp only at hSw); go_simp; all_goals with_reducible rfl)
          (try simp only [Act.put, List.setIfInBounds_toArray, List.set_cons_zero, List.set_cons_succ])
          refine wpAnyH_take (i := 1) (oi := ({ dst := some 65, op := Op.move (Operand.tmp 64), type := 4, pos := "law.go:122", after := #[{ on := 0, ground := Ground.data }], guard := none } : Oper)) (v := ?_) rfl (by kernel_rfl) (by kernel_rfl) (by kernel_rfl) (fun _ _ _ h => h) (Or.inl ⟨by rfl, ?_⟩) (by assumption) ?_
          rotate_left
          · (intro w9 hSw; (try dsimp only at hSw); go_simp; all_goals with_reducible rfl)
          (try simp only [Act.put, List.setIfInBounds_toArray, List.set_cons_zero, List.set_cons_succ])
          refine wpAnyH_take (i := 2) (oi := ({ dst := some 66, op := Op.move (Operand.tmp 6), type := 3, pos := "law.go:122", after := #[{ on := 1, ground := Ground.guard }], guard := some (1, true) } : Oper)) (v := ?_) rfl (by kernel_rfl) (by kernel_rfl) (by kernel_rfl) (fun _ _ _ h => h) (Or.inl ⟨by rfl, ?_⟩) (by assumption) ?_
          rotate_left
          · (intro w9 hSw; (try dsimp only at hSw); go_simp; all_goals with_reducible rfl)
          (try simp only [Act.put, List.setIfInBounds_toArray, List.set_cons_zero, List.set_cons_succ])
          refine wpAnyH_take (i := 4) (oi := ({ dst := some 68, op := Op.load 26 (Operand.tmp 10), type := 26, pos := "law.go:122", after := #[{ on := 1, ground := Ground.guard }], guard := some (1, true) } : Oper)) (v := ?_) rfl (by kernel_rfl) (by kernel_rfl) (by kernel_rfl) (fun _ _ _ h => h) (Or.inl ⟨by rfl, ?_⟩) (by assumption) ?_
          rotate_left
          · (intro w9 hSw; (try dsimp only at hSw); go_simp; all_goals with_reducible rfl)
          (try simp only [Act.put, List.setIfInBounds_toArray, List.set_cons_zero, List.set_cons_succ])
          refine wpAnyH_ready (rs := [3]) (by kernel_rfl) (by simp) ?_
          refine AllReadyH.cons (o := ({ dst := some 67, op := Op.call { callee := Callee.value (Operand.func 43), args := #[Operand.const (Value.int IntKind.i64 1), Operand.tmp 66], argTypes := #[2, 3] }, type := 26, pos := "law.go:122", after := #[{ on := 2, ground := Ground.data }, { on := 1, ground := Ground.chain }, { on := 1, ground := Ground.guard }], guard := some (1, true) } : Oper)) rfl (fun K hK => ?_) AllReadyH.nil
          go_simp
          with_reducible refine (of_any 1 GA hT.drw (by omega) (by omega)).mono ?_
          rintro e v15 ⟨A7, n7, c7, rfl, z7, hb1⟩
          replace hb1 := undrew hb1
          replace x_a := x_a.keep hb1
          replace x_b := x_b.keep hb1
          replace x_x := x_x.keep hb1
          replace hT := hT.keep hb1
          replace za := za.keep hb1
          replace zb := zb.keep hb1
          replace zx := zx.keep hb1
          replace hb := bthen hb hb1
          clear hb1
          replace q_a0 := x_a.c0; replace q_a1 := x_a.c1; replace f_a0 := x_a.fr 0; replace f_a1 := x_a.fr 1; replace q_a2 := x_a.c2; replace f_a2 := x_a.fr 2
          replace q_b0 := x_b.c0; replace q_b1 := x_b.c1; replace f_b0 := x_b.fr 0; replace f_b1 := x_b.fr 1; replace q_b2 := x_b.c2; replace f_b2 := x_b.fr 2
          replace q_x0 := x_x.c0; replace q_x1 := x_x.c1; replace f_x0 := x_x.fr 0; replace f_x1 := x_x.fr 1; replace q_x2 := x_x.c2; replace f_x2 := x_x.fr 2
          rw [HO.out.1.1] at z7 ⊢
          rw [HO.out.1.2]
          (try go_wp2_with fail)
          refine hK.out _ _ (by exact ⟨x_x.c0, x_x.c1, x_x.c2⟩) (fun hHeld => ?_)
          clear hK K
          (try simp only [Act.put, List.setIfInBounds_toArray, List.set_cons_zero, List.set_cons_succ])
          refine wpAnyH_ready (rs := [5]) (by kernel_rfl) (by simp) ?_
          refine AllReadyH.cons (o := ({ dst := some 69, op := Op.call { callee := Callee.value (Operand.func 20), args := #[Operand.tmp 67, Operand.tmp 68], argTypes := #[26, 26] }, type := 3, pos := "law.go:122", after := #[{ on := 3, ground := Ground.data }, { on := 4, ground := Ground.data }, { on := 3, ground := Ground.chain }, { on := 1, ground := Ground.guard }], guard := some (1, true) } : Oper)) rfl (fun K hK => ?_) AllReadyH.nil
          go_simp
          with_reducible refine (DCmp_any z7.zr zx.zr (by omega) (by omega)).mono ?_
          rintro e v16 ⟨rfl, hb1⟩
          replace x_a := x_a.keep hb1
          replace x_b := x_b.keep hb1
          replace x_x := x_x.keep hb1
          replace hT := hT.keep hb1
          replace za := za.keep hb1
          replace zb := zb.keep hb1
          replace zx := zx.keep hb1
          replace z7 := z7.keep hb1
          replace hb := bthen hb hb1
          clear hb1
          replace q_a0 := x_a.c0; replace q_a1 := x_a.c1; replace f_a0 := x_a.fr 0; replace f_a1 := x_a.fr 1; replace q_a2 := x_a.c2; replace f_a2 := x_a.fr 2
          replace q_b0 := x_b.c0; replace q_b1 := x_b.c1; replace f_b0 := x_b.fr 0; replace f_b1 := x_b.fr 1; replace q_b2 := x_b.c2; replace f_b2 := x_b.fr 2
          replace q_x0 := x_x.c0; replace q_x1 := x_x.c1; replace f_x0 := x_x.fr 0; replace f_x1 := x_x.fr 1; replace q_x2 := x_x.c2; replace f_x2 := x_x.fr 2
          rw [HS1.out]
          (try go_wp2_with fail)
          refine hK.out _ _ (by exact ⟨x_x.c0, x_x.c1, x_x.c2⟩) (fun hHeld => ?_)
          clear hK K
          (try simp only [Act.put, List.setIfInBounds_toArray, List.set_cons_zero, List.set_cons_succ])
          refine wpAnyH_take (i := 6) (oi := ({ dst := some 70, op := Op.binOp BinOp.leq 3 (Operand.tmp 69) (Operand.const (Value.int IntKind.i64 0)) 3, type := 4, pos := "law.go:122", after := #[{ on := 5, ground := Ground.data }, { on := 1, ground := Ground.guard }], guard := some (1, true) } : Oper)) (v := ?_) rfl (by kernel_rfl) (by kernel_rfl) (by kernel_rfl) (fun _ _ _ h => h) (Or.inl ⟨by rfl, ?_⟩) (by assumption) ?_
          rotate_left
          · (intro w9 hSw; (try dsimp only at hSw); go_simp; all_goals with_reducible rfl)
          (try simp only [Act.put, List.setIfInBounds_toArray, List.set_cons_zero, List.set_cons_succ])
          refine wpAnyH_take (i := 7) (oi := ({ dst := some 71, op := Op.pick (Operand.tmp 65) (Operand.tmp 70) (Operand.const (Value.bool false)), type := 4, pos := "law.go:122", after := #[{ on := 1, ground := Ground.data }, { on := 6, ground := Ground.data }], guard := none } : Oper)) (v := ?_) rfl (by kernel_rfl) (by kernel_rfl) (by kernel_rfl) (fun _ _ _ h => h) (Or.inl ⟨by rfl, ?_⟩) (by assumption) ?_
          rotate_left
          · (intro w9 hSw; (try dsimp only at hSw); go_simp; all_goals with_reducible rfl)
          (try simp only [Act.put, List.setIfInBounds_toArray, List.set_cons_zero, List.set_cons_succ])
          refine wpAnyH_take (i := 8) (oi := ({ dst := some 72, op := Op.move (Operand.tmp 71), type := 4, pos := "law.go:122", after := #[{ on := 7, ground := Ground.data }, { on := 5, ground := Ground.chain }], guard := none } : Oper)) (v := ?_) rfl (by kernel_rfl) (by kernel_rfl) (by kernel_rfl) (fun _ _ _ h => h) (Or.inl ⟨by rfl, ?_⟩) (by assumption) ?_
          rotate_left
          · (intro w9 hSw; (try dsimp only at hSw); go_simp; all_goals with_reducible rfl)
          (try simp only [Act.put, List.setIfInBounds_toArray, List.set_cons_zero, List.set_cons_succ])
          refine wpAnyH_take (i := 9) (oi := ({ dst := some 73, op := Op.load 26 (Operand.tmp 10), type := 26, pos := "law.go:122", after := #[{ on := 8, ground := Ground.guard }], guard := some (8, true) } : Oper)) (v := ?_) rfl (by kernel_rfl) (by kernel_rfl) (by kernel_rfl) (fun _ _ _ h => h) (Or.inl ⟨by rfl, ?_⟩) (by assumption) ?_
          rotate_left
          · (intro w9 hSw; (try dsimp only at hSw); go_simp; all_goals with_reducible rfl)
          (try simp only [Act.put, List.setIfInBounds_toArray, List.set_cons_zero, List.set_cons_succ])
          refine wpAnyH_take (i := 10) (oi := ({ dst := some 74, op := Op.move (Operand.tmp 6), type := 3, pos := "law.go:122", after := #[{ on := 8, ground := Ground.guard }], guard := some (8, true) } : Oper)) (v := ?_) rfl (by kernel_rfl) (by kernel_rfl) (by kernel_rfl) (fun _ _ _ h => h) (Or.inl ⟨by rfl, ?_⟩) (by assumption) ?_
          rotate_left
          · (intro w9 hSw; (try dsimp only at hSw); go_simp; all_goals with_reducible rfl)
          (try simp only [Act.put, List.setIfInBounds_toArray, List.set_cons_zero, List.set_cons_succ])
          refine wpAnyH_take (i := 11) (oi := ({ dst := some 75, op := Op.binOp BinOp.add 3 (Operand.tmp 74) (Operand.const (Value.int IntKind.i64 1)) 3, type := 3, pos := "law.go:122", after := #[{ on := 10, ground := Ground.data }, { on := 8, ground := Ground.guard }], guard := some (8, true) } : Oper)) (v := ?_) rfl (by kernel_rfl) (by kernel_rfl) (by kernel_rfl) (fun _ _ _ h => h) (Or.inl ⟨by rfl, ?_⟩) (by assumption) ?_
          rotate_left
          · (intro w9 hSw; (try dsimp only at hSw); go_simp; all_goals with_reducible rfl)
          (try simp only [Act.put, List.setIfInBounds_toArray, List.set_cons_zero, List.set_cons_succ])
          refine wpAnyH_ready (rs := [12]) (by kernel_rfl) (by simp) ?_
          refine AllReadyH.cons (o := ({ dst := some 76, op := Op.call { callee := Callee.value (Operand.func 43), args := #[Operand.const (Value.int IntKind.i64 1), Operand.tmp 75], argTypes := #[2, 3] }, type := 26, pos := "law.go:122", after := #[{ on := 11, ground := Ground.data }, { on := 8, ground := Ground.chain }, { on := 8, ground := Ground.guard }], guard := some (8, true) } : Oper)) rfl (fun K hK => ?_) AllReadyH.nil
          go_simp
          with_reducible refine (of_any 1 GC hT (by omega) (by omega)).mono ?_
          rintro e v17 ⟨A8, n8, c8, rfl, z8, hb1⟩
          replace x_a := x_a.keep hb1
          replace x_b := x_b.keep hb1
          replace x_x := x_x.keep hb1
          replace hT := hT.keep hb1
          replace za := za.keep hb1
          replace zb := zb.keep hb1
          replace zx := zx.keep hb1
          replace z7 := z7.keep hb1
          replace hb := bthen hb hb1
          clear hb1
          replace q_a0 := x_a.c0; replace q_a1 := x_a.c1; replace f_a0 := x_a.fr 0; replace f_a1 := x_a.fr 1; replace q_a2 := x_a.c2; replace f_a2 := x_a.fr 2
          replace q_b0 := x_b.c0; replace q_b1 := x_b.c1; replace f_b0 := x_b.fr 0; replace f_b1 := x_b.fr 1; replace q_b2 := x_b.c2; replace f_b2 := x_b.fr 2
          replace q_x0 := x_x.c0; replace q_x1 := x_x.c1; replace f_x0 := x_x.fr 0; replace f_x1 := x_x.fr 1; replace q_x2 := x_x.c2; replace f_x2 := x_x.fr 2
          rw [HO.out.2.1] at z8 ⊢
          rw [HO.out.2.2]
          (try go_wp2_with fail)
          refine hK.out _ _ (by exact ⟨x_x.c0, x_x.c1, x_x.c2⟩) (fun hHeld => ?_)
          clear hK K
          (try simp only [Act.put, List.setIfInBounds_toArray, List.set_cons_zero, List.set_cons_succ])
          refine wpAnyH_ready (rs := [13]) (by kernel_rfl) (by simp) ?_
          refine AllReadyH.cons (o := ({ dst := some 77, op := Op.call { callee := Callee.value (Operand.func 20), args := #[Operand.tmp 73, Operand.tmp 76], argTypes := #[26, 26] }, type := 3, pos := "law.go:122", after := #[{ on := 9, ground := Ground.data }, { on := 12, ground := Ground.data }, { on := 12, ground := Ground.chain }, { on := 8, ground := Ground.guard }], guard := some (8, true) } : Oper)) rfl (fun K hK => ?_) AllReadyH.nil
          go_simp
          with_reducible refine (DCmp_any zx.zr z8.zr (by omega) (by omega)).mono ?_
          rintro e v18 ⟨rfl, hb1⟩
          replace x_a := x_a.keep hb1
          replace x_b := x_b.keep hb1
          replace x_x := x_x.keep hb1
          replace hT := hT.keep hb1
          replace za := za.keep hb1
          replace zb := zb.keep hb1
          replace zx := zx.keep hb1
          replace z7 := z7.keep hb1
          replace z8 := z8.keep hb1
          replace hb := bthen hb hb1
          clear hb1
          replace q_a0 := x_a.c0; replace q_a1 := x_a.c1; replace f_a0 := x_a.fr 0; replace f_a1 := x_a.fr 1; replace q_a2 := x_a.c2; replace f_a2 := x_a.fr 2
          replace q_b0 := x_b.c0; replace q_b1 := x_b.c1; replace f_b0 := x_b.fr 0; replace f_b1 := x_b.fr 1; replace q_b2 := x_b.c2; replace f_b2 := x_b.fr 2
          replace q_x0 := x_x.c0; replace q_x1 := x_x.c1; replace f_x0 := x_x.fr 0; replace f_x1 := x_x.fr 1; replace q_x2 := x_x.c2; replace f_x2 := x_x.fr 2
          rw [HS2.out]
          (try go_wp2_with fail)
          refine hK.out _ _ (by exact ⟨x_x.c0, x_x.c1, x_x.c2⟩) (fun hHeld => ?_)
          clear hK K
          (try simp only [Act.put, List.setIfInBounds_toArray, List.set_cons_zero, List.set_cons_succ])
          refine wpAnyH_take (i := 14) (oi := ({ dst := some 78, op := Op.binOp BinOp.lss 3 (Operand.tmp 77) (Operand.const (Value.int IntKind.i64 0)) 3, type := 4, pos := "law.go:122", after := #[{ on := 13, ground := Ground.data }, { on := 8, ground := Ground.guard }], guard := some (8, true) } : Oper)) (v := ?_) rfl (by kernel_rfl) (by kernel_rfl) (by kernel_rfl) (fun _ _ _ h => h) (Or.inl ⟨by rfl, ?_⟩) (by assumption) ?_
          rotate_left
          · (intro w9 hSw; (try dsimp only at hSw); go_simp; all_goals with_reducible rfl)
          (try simp only [Act.put, List.setIfInBounds_toArray, List.set_cons_zero, List.set_cons_succ])
          refine wpAnyH_take (i := 15) (oi := ({ dst := some 79, op := Op.pick (Operand.tmp 72) (Operand.tmp 78) (Operand.const (Value.bool false)), type := 4, pos := "law.go:122", after := #[{ on := 8, ground := Ground.data }, { on := 14, ground := Ground.data }], guard := none } : Oper)) (v := ?_) rfl (by kernel_rfl) (by kernel_rfl) (by kernel_rfl) (fun _ _ _ h => h) (Or.inl ⟨by rfl, ?_⟩) (by assumption) ?_
          rotate_left
          · (intro w9 hSw; (try dsimp only at hSw); go_simp; all_goals with_reducible rfl)
          (try simp only [Act.put, List.setIfInBounds_toArray, List.set_cons_zero, List.set_cons_succ])
          refine wpAnyH_take (i := 16) (oi := ({ dst := some 80, op := Op.move (Operand.tmp 79), type := 4, pos := "law.go:122", after := #[{ on := 15, ground := Ground.data }, { on := 13, ground := Ground.chain }], guard := none } : Oper)) (v := ?_) rfl (by kernel_rfl) (by kernel_rfl) (by kernel_rfl) (fun _ _ _ h => h) (Or.inl ⟨by rfl, ?_⟩) (by assumption) ?_
          rotate_left
          · (intro w9 hSw; (try dsimp only at hSw); go_simp; all_goals with_reducible rfl)
          (try simp only [Act.put, List.setIfInBounds_toArray, List.set_cons_zero, List.set_cons_succ])
          refine wpAnyH_take (i := 17) (oi := ({ dst := some 81, op := Op.move (Operand.tmp 11), type := 3, pos := "law.go:122", after := #[{ on := 16, ground := Ground.guard }], guard := some (16, true) } : Oper)) (v := ?_) rfl (by kernel_rfl) (by kernel_rfl) (by kernel_rfl) (fun _ _ _ h => h) (Or.inl ⟨by rfl, ?_⟩) (by assumption) ?_
          rotate_left
          · (intro w9 hSw; (try dsimp only at hSw); go_simp; all_goals with_reducible rfl)
          (try simp only [Act.put, List.setIfInBounds_toArray, List.set_cons_zero, List.set_cons_succ])
          refine wpAnyH_take (i := 18) (oi := ({ dst := some 82, op := Op.move (Operand.tmp 6), type := 3, pos := "law.go:122", after := #[{ on := 16, ground := Ground.guard }], guard := some (16, true) } : Oper)) (v := ?_) rfl (by kernel_rfl) (by kernel_rfl) (by kernel_rfl) (fun _ _ _ h => h) (Or.inl ⟨by rfl, ?_⟩) (by assumption) ?_
          rotate_left
          · (intro w9 hSw; (try dsimp only at hSw); go_simp; all_goals with_reducible rfl)
          (try simp only [Act.put, List.setIfInBounds_toArray, List.set_cons_zero, List.set_cons_succ])
          refine wpAnyH_take (i := 19) (oi := ({ dst := some 83, op := Op.move (Operand.tmp 8), type := 3, pos := "law.go:122", after := #[{ on := 16, ground := Ground.guard }], guard := some (16, true) } : Oper)) (v := ?_) rfl (by kernel_rfl) (by kernel_rfl) (by kernel_rfl) (fun _ _ _ h => h) (Or.inl ⟨by rfl, ?_⟩) (by assumption) ?_
          rotate_left
          · (intro w9 hSw; (try dsimp only at hSw); go_simp; all_goals with_reducible rfl)
          (try simp only [Act.put, List.setIfInBounds_toArray, List.set_cons_zero, List.set_cons_succ])
          refine wpAnyH_take (i := 20) (oi := ({ dst := some 84, op := Op.binOp BinOp.add 3 (Operand.tmp 82) (Operand.tmp 83) 3, type := 3, pos := "law.go:122", after := #[{ on := 18, ground := Ground.data }, { on := 19, ground := Ground.data }, { on := 16, ground := Ground.guard }], guard := some (16, true) } : Oper)) (v := ?_) rfl (by kernel_rfl) (by kernel_rfl) (by kernel_rfl) (fun _ _ _ h => h) (Or.inl ⟨by rfl, ?_⟩) (by assumption) ?_
          rotate_left
          · (intro w9 hSw; (try dsimp only at hSw); go_simp; all_goals with_reducible rfl)
          (try simp only [Act.put, List.setIfInBounds_toArray, List.set_cons_zero, List.set_cons_succ])
          refine wpAnyH_take (i := 21) (oi := ({ dst := some 85, op := Op.binOp BinOp.eql 3 (Operand.tmp 81) (Operand.tmp 84) 3, type := 4, pos := "law.go:122", after := #[{ on := 17, ground := Ground.data }, { on := 20, ground := Ground.data }, { on := 16, ground := Ground.guard }], guard := some (16, true) } : Oper)) (v := ?_) rfl (by kernel_rfl) (by kernel_rfl) (by kernel_rfl) (fun _ _ _ h => h) (Or.inl ⟨by rfl, ?_⟩) (by assumption) ?_
          rotate_left
          · (intro w9 hSw; (try dsimp only at hSw); go_simp; all_goals with_reducible rfl)
          (try simp only [Act.put, List.setIfInBounds_toArray, List.set_cons_zero, List.set_cons_succ])
          refine wpAnyH_take (i := 22) (oi := ({ dst := some 86, op := Op.move (Operand.tmp 85), type := 4, pos := "law.go:122", after := #[{ on := 21, ground := Ground.data }, { on := 16, ground := Ground.chain }, { on := 16, ground := Ground.guard }], guard := some (16, true) } : Oper)) (v := ?_) rfl (by kernel_rfl) (by kernel_rfl) (by kernel_rfl) (fun _ _ _ h => h) (Or.inl ⟨by rfl, ?_⟩) (by assumption) ?_
          rotate_left
          · (intro w9 hSw; (try dsimp only at hSw); go_simp; all_goals with_reducible rfl)
          (try simp only [Act.put, List.setIfInBounds_toArray, List.set_cons_zero, List.set_cons_succ])
          refine wpAnyH_take (i := 23) (oi := ({ dst := some 87, op := Op.move (Operand.tmp 11), type := 3, pos := "law.go:122", after := #[{ on := 22, ground := Ground.guard }], guard := some (22, false) } : Oper)) (v := undef) rfl (by kernel_rfl) (by kernel_rfl) (by kernel_rfl) (fun _ _ _ h => h) (Or.inr ⟨by rfl, rfl⟩) (by assumption) ?_
          (try simp only [Act.put, List.setIfInBounds_toArray, List.set_cons_zero, List.set_cons_succ])
          refine wpAnyH_take (i := 24) (oi := ({ dst := some 88, op := Op.move (Operand.tmp 6), type := 3, pos := "law.go:122", after := #[{ on := 22, ground := Ground.guard }], guard := some (22, false) } : Oper)) (v := undef) rfl (by kernel_rfl) (by kernel_rfl) (by kernel_rfl) (fun _ _ _ h => h) (Or.inr ⟨by rfl, rfl⟩) (by assumption) ?_
          (try simp only [Act.put, List.setIfInBounds_toArray, List.set_cons_zero, List.set_cons_succ])
          refine wpAnyH_take (i := 25) (oi := ({ dst := some 89, op := Op.move (Operand.tmp 8), type := 3, pos := "law.go:122", after := #[{ on := 22, ground := Ground.guard }], guard := some (22, false) } : Oper)) (v := undef) rfl (by kernel_rfl) (by kernel_rfl) (by kernel_rfl) (fun _ _ _ h => h) (Or.inr ⟨by rfl, rfl⟩) (by assumption) ?_
          (try simp only [Act.put, List.setIfInBounds_toArray, List.set_cons_zero, List.set_cons_succ])
          refine wpAnyH_take (i := 26) (oi := ({ dst := some 90, op := Op.binOp BinOp.add 3 (Operand.tmp 88) (Operand.tmp 89) 3, type := 3, pos := "law.go:122", after := #[{ on := 24, ground := Ground.data }, { on := 25, ground := Ground.data }, { on := 22, ground := Ground.guard }], guard := some (22, false) } : Oper)) (v := undef) rfl (by kernel_rfl) (by kernel_rfl) (by kernel_rfl) (fun _ _ _ h => h) (Or.inr ⟨by rfl, rfl⟩) (by assumption) ?_
          (try simp only [Act.put, List.setIfInBounds_toArray, List.set_cons_zero, List.set_cons_succ])
          refine wpAnyH_take (i := 27) (oi := ({ dst := some 91, op := Op.binOp BinOp.add 3 (Operand.tmp 90) (Operand.const (Value.int IntKind.i64 1)) 3, type := 3, pos := "law.go:122", after := #[{ on := 26, ground := Ground.data }, { on := 22, ground := Ground.guard }], guard := some (22, false) } : Oper)) (v := undef) rfl (by kernel_rfl) (by kernel_rfl) (by kernel_rfl) (fun _ _ _ h => h) (Or.inr ⟨by rfl, rfl⟩) (by assumption) ?_
          (try simp only [Act.put, List.setIfInBounds_toArray, List.set_cons_zero, List.set_cons_succ])
          refine wpAnyH_take (i := 28) (oi := ({ dst := some 92, op := Op.binOp BinOp.eql 3 (Operand.tmp 87) (Operand.tmp 91) 3, type := 4, pos := "law.go:122", after := #[{ on := 23, ground := Ground.data }, { on := 27, ground := Ground.data }, { on := 22, ground := Ground.guard }], guard := some (22, false) } : Oper)) (v := undef) rfl (by kernel_rfl) (by kernel_rfl) (by kernel_rfl) (fun _ _ _ h => h) (Or.inr ⟨by rfl, rfl⟩) (by assumption) ?_
          (try simp only [Act.put, List.setIfInBounds_toArray, List.set_cons_zero, List.set_cons_succ])
          refine wpAnyH_take (i := 29) (oi := ({ dst := some 93, op := Op.pick (Operand.tmp 86) (Operand.const (Value.bool true)) (Operand.tmp 92), type := 4, pos := "law.go:122", after := #[{ on := 22, ground := Ground.data }, { on := 28, ground := Ground.data }, { on := 16, ground := Ground.guard }], guard := some (16, true) } : Oper)) (v := ?_) rfl (by kernel_rfl) (by kernel_rfl) (by kernel_rfl) (fun _ _ _ h => h) (Or.inl ⟨by rfl, ?_⟩) (by assumption) ?_
          rotate_left
          · (intro w9 hSw; (try dsimp only at hSw); go_simp; all_goals with_reducible rfl)
          (try simp only [Act.put, List.setIfInBounds_toArray, List.set_cons_zero, List.set_cons_succ])
          refine wpAnyH_take (i := 30) (oi := ({ dst := some 94, op := Op.pick (Operand.tmp 80) (Operand.tmp 93) (Operand.const (Value.bool false)), type := 4, pos := "law.go:122", after := #[{ on := 16, ground := Ground.data }, { on := 29, ground := Ground.data }], guard := none } : Oper)) (v := ?_) rfl (by kernel_rfl) (by kernel_rfl) (by kernel_rfl) (fun _ _ _ h => h) (Or.inl ⟨by rfl, ?_⟩) (by assumption) ?_
          rotate_left
          · (intro w9 hSw; (try dsimp only at hSw); go_simp; all_goals with_reducible rfl)
          (try simp only [Act.put, List.setIfInBounds_toArray, List.set_cons_zero, List.set_cons_succ])
          refine wpAnyH_take (i := 31) (oi := ({ dst := some 4, op := Op.assign (Operand.tmp 94), type := 4, pos := "law.go:122", after := #[{ on := 30, ground := Ground.data }, { on := 22, ground := Ground.chain }, { on := 0, ground := Ground.phase }, { on := 1, ground := Ground.phase }, { on := 2, ground := Ground.phase }, { on := 3, ground := Ground.phase }, { on := 4, ground := Ground.phase }, { on := 5, ground := Ground.phase }, { on := 6, ground := Ground.phase }, { on := 7, ground := Ground.phase }, { on := 8, ground := Ground.phase }, { on := 9, ground := Ground.phase }, { on := 10, ground := Ground.phase }, { on := 11, ground := Ground.phase }, { on := 12, ground := Ground.phase }, { on := 13, ground := Ground.phase }, { on := 14, ground := Ground.phase }, { on := 15, ground := Ground.phase }, { on := 16, ground := Ground.phase }, { on := 17, ground := Ground.phase }, { on := 18, ground := Ground.phase }, { on := 19, ground := Ground.phase }, { on := 20, ground := Ground.phase }, { on := 21, ground := Ground.phase }, { on := 22, ground := Ground.phase }, { on := 23, ground := Ground.phase }, { on := 24, ground := Ground.phase }, { on := 25, ground := Ground.phase }, { on := 26, ground := Ground.phase }, { on := 27, ground := Ground.phase }, { on := 28, ground := Ground.phase }, { on := 29, ground := Ground.phase }, { on := 30, ground := Ground.phase }], guard := none } : Oper)) (v := ?_) rfl (by kernel_rfl) (by kernel_rfl) (by kernel_rfl) (fun _ _ _ h => h) (Or.inl ⟨by rfl, ?_⟩) (by assumption) ?_
          rotate_left
          · (intro w9 hSw; (try dsimp only at hSw); go_simp; all_goals with_reducible rfl)
          (try simp only [Act.put, List.setIfInBounds_toArray, List.set_cons_zero, List.set_cons_succ])
          refine wpAnyH_done (by kernel_rfl) ?_ _
          all_goals go_wp2
          all_goals go_ret
          all_goals exact ⟨rfl, hb⟩
        · have hk1 : (kk == GA + GB) = false := by rw [beq_eq_false_iff_ne]; omega
          have hk2 : (kk == GA + GB + 1) = true := by simp [hkk]
          clear HFIN hkk HLM
          go_wp2_with fail
          first | (go_region_held3 (fun w' => w'.cell? ⟨v8.heap.size, 0, none⟩ = some (.bool (ngB (od (-A)))) ∧ w'.cell? ⟨v8.heap.size, 1, none⟩ = some (.slice Ax nx cx) ∧ w'.cell? ⟨v8.heap.size, 2, none⟩ = some (.int .i64 (nE (-A) Ea))) (first | (with_reducible exact ⟨x_x.c0, x_x.c1, x_x.c2⟩) | (with_reducible exact ⟨(x_x.aside (by omega)).c0, (x_x.aside (by omega)).c1, (x_x.aside (by omega)).c2⟩) | (with_reducible exact ⟨((x_x.aside (by omega)).aside (by omega)).c0, ((x_x.aside (by omega)).aside (by omega)).c1, ((x_x.aside (by omega)).aside (by omega)).c2⟩) | (with_reducible exact ⟨(x_x.asideD (by omega)).c0, (x_x.asideD (by omega)).c1, (x_x.asideD (by omega)).c2⟩) | (with_reducible exact ⟨((x_x.asideD (by omega)).asideD (by omega)).c0, ((x_x.asideD (by omega)).asideD (by omega)).c1, ((x_x.asideD (by omega)).asideD (by omega)).c2⟩) | go_keep) (first | (go_at_call 43; (with_reducible refine (of_any 1 GA hT.drw (by omega) (by omega)).mono ?_); rintro e v15 ⟨A7, n7, c7, rfl, z7, hb1⟩; replace hb1 := undrew hb1; replace x_a := x_a.keep hb1; replace x_b := x_b.keep hb1; replace x_x := x_x.keep hb1; replace hT := hT.keep hb1; replace za := za.keep hb1; replace zb := zb.keep hb1; replace zx := zx.keep hb1; replace hb := bthen hb hb1; clear hb1; replace q_a0 := x_a.c0; replace q_a1 := x_a.c1; replace f_a0 := x_a.fr 0; replace f_a1 := x_a.fr 1; replace q_a2 := x_a.c2; replace f_a2 := x_a.fr 2; replace q_b0 := x_b.c0; replace q_b1 := x_b.c1; replace f_b0 := x_b.fr 0; replace f_b1 := x_b.fr 1; replace q_b2 := x_b.c2; replace f_b2 := x_b.fr 2; replace q_x0 := x_x.c0; replace q_x1 := x_x.c1; replace f_x0 := x_x.fr 0; replace f_x1 := x_x.fr 1; replace q_x2 := x_x.c2; replace f_x2 := x_x.fr 2; rw [HO.out.1.1] at z7 ⊢; rw [HO.out.1.2]) | (go_at_call 20; (with_reducible refine (DCmp_any z7.zr zx.zr (by omega) (by omega)).mono ?_); rintro e v16 ⟨rfl, hb1⟩; replace x_a := x_a.keep hb1; replace x_b := x_b.keep hb1; replace x_x := x_x.keep hb1; replace hT := hT.keep hb1; replace za := za.keep hb1; replace zb := zb.keep hb1; replace zx := zx.keep hb1; replace z7 := z7.keep hb1; replace hb := bthen hb hb1; clear hb1; replace q_a0 := x_a.c0; replace q_a1 := x_a.c1; replace f_a0 := x_a.fr 0; replace f_a1 := x_a.fr 1; replace q_a2 := x_a.c2; replace f_a2 := x_a.fr 2; replace q_b0 := x_b.c0; replace q_b1 := x_b.c1; replace f_b0 := x_b.fr 0; replace f_b1 := x_b.fr 1; replace q_b2 := x_b.c2; replace f_b2 := x_b.fr 2; replace q_x0 := x_x.c0; replace q_x1 := x_x.c1; replace f_x0 := x_x.fr 0; replace f_x1 := x_x.fr 1; replace q_x2 := x_x.c2; replace f_x2 := x_x.fr 2; rw [HS1.out]) | (go_at_call 43; (with_reducible refine (of_any 1 GC hT (by omega) (by omega)).mono ?_); rintro e v17 ⟨A8, n8, c8, rfl, z8, hb1⟩; replace x_a := x_a.keep hb1; replace x_b := x_b.keep hb1; replace x_x := x_x.keep hb1; replace hT := hT.keep hb1; replace za := za.keep hb1; replace zb := zb.keep hb1; replace zx := zx.keep hb1; replace z7 := z7.keep hb1; replace hb := bthen hb hb1; clear hb1; replace q_a0 := x_a.c0; replace q_a1 := x_a.c1; replace f_a0 := x_a.fr 0; replace f_a1 := x_a.fr 1; replace q_a2 := x_a.c2; replace f_a2 := x_a.fr 2; replace q_b0 := x_b.c0; replace q_b1 := x_b.c1; replace f_b0 := x_b.fr 0; replace f_b1 := x_b.fr 1; replace q_b2 := x_b.c2; replace f_b2 := x_b.fr 2; replace q_x0 := x_x.c0; replace q_x1 := x_x.c1; replace f_x0 := x_x.fr 0; replace f_x1 := x_x.fr 1; replace q_x2 := x_x.c2; replace f_x2 := x_x.fr 2; rw [HO.out.2.1] at z8 ⊢; rw [HO.out.2.2]) | (go_at_call 20; (with_reducible refine (DCmp_any zx.zr z8.zr (by omega) (by omega)).mono ?_); rintro e v18 ⟨rfl, hb1⟩; replace x_a := x_a.keep hb1; replace x_b := x_b.keep hb1; replace x_x := x_x.keep hb1; replace hT := hT.keep hb1; replace za := za.keep hb1; replace zb := zb.keep hb1; replace zx := zx.keep hb1; replace z7 := z7.keep hb1; replace z8 := z8.keep hb1; replace hb := bthen hb hb1; clear hb1; replace q_a0 := x_a.c0; replace q_a1 := x_a.c1; replace f_a0 := x_a.fr 0; replace f_a1 := x_a.fr 1; replace q_a2 := x_a.c2; replace f_a2 := x_a.fr 2; replace q_b0 := x_b.c0; replace q_b1 := x_b.c1; replace f_b0 := x_b.fr 0; replace f_b1 := x_b.fr 1; replace q_b2 := x_b.c2; replace f_b2 := x_b.fr 2; replace q_x0 := x_x.c0; replace q_x1 := x_x.c1; replace f_x0 := x_x.fr 0; replace f_x1 := x_x.fr 1; replace q_x2 := x_x.c2; replace f_x2 := x_x.fr 2; rw [HS2.out]))) | fail
          all_goals go_wp2
          all_goals go_ret
          all_goals exact ⟨rfl, hb⟩
      · have HSA : Hid (¬ sgnI A < 0) := Lib.hid (mt sgnI_lt0.1 (by omega))
        have hin := HINa.out
        have hbw := lg_between (X := A) (e := Ea) (by omega) HINa.out HI1.out HI2.out
        rw [← cmp_vd HI1.out hin, ← cmp_vd hin HI2.out] at hbw
        have HBW := Lib.hid hbw; clear hbw hA hB hpos hin
        skip
        with_reducible refine (DLog_any za (by omega)).mono ?_
        rintro e v7 ⟨rfl, hb1⟩
        replace x_a := x_a.keep hb1
        replace x_b := x_b.keep hb1
        replace hT := hT.keep hb1
        replace za := za.keep hb1
        replace zb := zb.keep hb1
        replace hb := bthen hb hb1
        clear hb1
        replace q_a0 := x_a.c0; replace q_a1 := x_a.c1; replace f_a0 := x_a.fr 0; replace f_a1 := x_a.fr 1; replace q_a2 := x_a.c2; replace f_a2 := x_a.fr 2
        replace q_b0 := x_b.c0; replace q_b1 := x_b.c1; replace f_b0 := x_b.fr 0; replace f_b1 := x_b.fr 1; replace q_b2 := x_b.c2; replace f_b2 := x_b.fr 2
        rw [HCa.out.1, HCa.out.2, HL0.out.1, HL0.out.2]
        go_wp2_with fail
        with_reducible refine (DLog_any zb (by omega)).mono ?_
        rintro e v8 ⟨rfl, hb1⟩
        replace x_a := x_a.keep hb1
        replace x_b := x_b.keep hb1
        replace hT := hT.keep hb1
        replace za := za.keep hb1
        replace zb := zb.keep hb1
        replace hb := bthen hb hb1
        clear hb1
        replace q_a0 := x_a.c0; replace q_a1 := x_a.c1; replace f_a0 := x_a.fr 0; replace f_a1 := x_a.fr 1; replace q_a2 := x_a.c2; replace f_a2 := x_a.fr 2
        replace q_b0 := x_b.c0; replace q_b1 := x_b.c1; replace f_b0 := x_b.fr 0; replace f_b1 := x_b.fr 1; replace q_b2 := x_b.c2; replace f_b2 := x_b.fr 2
        rw [HCb.out.1, HCb.out.2, HL1.out.1, HL1.out.2]
        generalize hGA : Ea + ↑(bl A.natAbs) - 1 = GA at *
        generalize hGB : Eb + ↑(bl B.natAbs) - 1 = GB at *
        generalize hGC : Ea + ↑(bl A.natAbs) = GC at *
        clear hGB
        have y_a := (x_a.alloc (.cells #[.bool b, .slice Aa_ na_ ca_, .int .i64 Ea] 26)); have yq_a0 := y_a.c0; have yq_a1 := y_a.c1; have yq_a2 := y_a.c2
        have y_b := (x_b.alloc (.cells #[.bool b, .slice Aa_ na_ ca_, .int .i64 Ea] 26)); have yq_b0 := y_b.c0; have yq_b1 := y_b.c1; have yq_b2 := y_b.c2
        go_wp2_with fail
        clear y_a yq_a0 yq_a1 yq_a2 y_b yq_b0 yq_b1 yq_b2
        have hb1 := below_alloc v8 (.cells #[.bool b, .slice Aa_ na_ ca_, .int .i64 Ea] 26)
        have l_a_x := x_a.lt
        have l_b_x := x_b.lt
        have x_x := Dx.new v8 b Aa_ na_ ca_ Ea
        have e_x : w.heap.size ≤ v8.heap.size := hb.size
        replace x_a := x_a.keep hb1
        replace x_b := x_b.keep hb1
        replace hT := hT.keep hb1
        replace za := za.keep hb1
        replace zb := zb.keep hb1
        replace hb := bthen hb hb1
        clear hb1
        replace q_a0 := x_a.c0; replace q_a1 := x_a.c1; replace f_a0 := x_a.fr 0; replace f_a1 := x_a.fr 1; replace q_a2 := x_a.c2; replace f_a2 := x_a.fr 2
        replace q_b0 := x_b.c0; replace q_b1 := x_b.c1; replace f_b0 := x_b.fr 0; replace f_b1 := x_b.fr 1; replace q_b2 := x_b.c2; replace f_b2 := x_b.fr 2
        clear q_a0 q_a1 f_a0 f_a1 q_a2 f_a2 q_b0 q_b1 f_b0 f_b1 q_b2 f_b2
        generalize v8.alloc (.cells #[.bool b, .slice Aa_ na_ ca_, .int .i64 Ea] 26) = v9 at *
        have q_a0 := x_a.c0; have q_a1 := x_a.c1; have f_a0 := x_a.fr 0; have f_a1 := x_a.fr 1; have q_a2 := x_a.c2; have f_a2 := x_a.fr 2
        have q_b0 := x_b.c0; have q_b1 := x_b.c1; have f_b0 := x_b.fr 0; have f_b1 := x_b.fr 1; have q_b2 := x_b.c2; have f_b2 := x_b.fr 2
        have q_x0 := x_x.c0; have q_x1 := x_x.c1; have f_x0 := x_x.fr 0; have f_x1 := x_x.fr 1; have q_x2 := x_x.c2; have f_x2 := x_x.fr 2
        skip
        with_reducible refine (DSign_any za (by omega)).mono ?_
        rintro e v10 ⟨rfl, hb1⟩
        replace x_a := x_a.keep hb1
        replace x_b := x_b.keep hb1
        replace x_x := x_x.keep hb1
        replace hT := hT.keep hb1
        replace za := za.keep hb1
        replace zb := zb.keep hb1
        replace hb := bthen hb hb1
        clear hb1
        replace q_a0 := x_a.c0; replace q_a1 := x_a.c1; replace f_a0 := x_a.fr 0; replace f_a1 := x_a.fr 1; replace q_a2 := x_a.c2; replace f_a2 := x_a.fr 2
        replace q_b0 := x_b.c0; replace q_b1 := x_b.c1; replace f_b0 := x_b.fr 0; replace f_b1 := x_b.fr 1; replace q_b2 := x_b.c2; replace f_b2 := x_b.fr 2
        replace q_x0 := x_x.c0; replace q_x1 := x_x.c1; replace f_x0 := x_x.fr 0; replace f_x1 := x_x.fr 1; replace q_x2 := x_x.c2; replace f_x2 := x_x.fr 2
        rw [HCa.out.1]
        have hsx := HSA.out
        generalize sgnI A = sg at *
        go_wp2_with fail
        with_reducible refine (DMul_any za zb hT 8 (by omega) (by omega)).mono ?_
        rintro e v11 ⟨Am, nm, cm, rfl, zm, hb1⟩
        replace x_a := x_a.keep hb1
        replace x_b := x_b.keep hb1
        replace x_x := x_x.keep hb1
        replace hT := hT.keep hb1
        replace za := za.keep hb1
        replace zb := zb.keep hb1
        replace hb := bthen hb hb1
        clear hb1
        replace q_a0 := x_a.c0; replace q_a1 := x_a.c1; replace f_a0 := x_a.fr 0; replace f_a1 := x_a.fr 1; replace q_a2 := x_a.c2; replace f_a2 := x_a.fr 2
        replace q_b0 := x_b.c0; replace q_b1 := x_b.c1; replace f_b0 := x_b.fr 0; replace f_b1 := x_b.fr 1; replace q_b2 := x_b.c2; replace f_b2 := x_b.fr 2
        replace q_x0 := x_x.c0; replace q_x1 := x_x.c1; replace f_x0 := x_x.fr 0; replace f_x1 := x_x.fr 1; replace q_x2 := x_x.c2; replace f_x2 := x_x.fr 2
        rw [HCa.out.1, HCb.out.1] at zm ⊢
        rw [HCa.out.2, HCb.out.2]
        go_wp2_with fail
        with_reducible refine (DLog_any zm.zr (by omega)).mono ?_
        rintro e v12 ⟨rfl, hb1⟩
        replace x_a := x_a.keep hb1
        replace x_b := x_b.keep hb1
        replace x_x := x_x.keep hb1
        replace hT := hT.keep hb1
        replace za := za.keep hb1
        replace zb := zb.keep hb1
        replace zm := zm.keep hb1
        replace hb := bthen hb hb1
        clear hb1
        replace q_a0 := x_a.c0; replace q_a1 := x_a.c1; replace f_a0 := x_a.fr 0; replace f_a1 := x_a.fr 1; replace q_a2 := x_a.c2; replace f_a2 := x_a.fr 2
        replace q_b0 := x_b.c0; replace q_b1 := x_b.c1; replace f_b0 := x_b.fr 0; replace f_b1 := x_b.fr 1; replace q_b2 := x_b.c2; replace f_b2 := x_b.fr 2
        replace q_x0 := x_x.c0; replace q_x1 := x_x.c1; replace f_x0 := x_x.fr 0; replace f_x1 := x_x.fr 1; replace q_x2 := x_x.c2; replace f_x2 := x_x.fr 2
        rw [HCP.out.1, HCP.out.2]
        generalize lgI (od (A * B)) (nE (A * B) (Ea + Eb)) = kk at *
        clear zm
        have hfin : (kk == GA + GB || kk == GA + GB + 1) = true := by rcases HLM.out with h | h <;> simp [h]
        have HFIN := Lib.hid hfin; clear hfin
        obtain ⟨s1, hs1⟩ : ∃ s1, sgnI (alP 1 GA (Ea) - alQ (A) GA (Ea)) = s1 := ⟨_, rfl⟩
        obtain ⟨s2, hs2⟩ : ∃ s2, sgnI (alP (A) (Ea) GC - alQ 1 (Ea) GC) = s2 := ⟨_, rfl⟩
        have HS1 := Lib.hid hs1; have HS2 := Lib.hid hs2
        have hle : s1 ≤ 0 := by rw [← hs1]; exact HBW.out.1
        have hlt : s2 < 0 := by rw [← hs2]; exact HBW.out.2
        clear hs1 hs2
        rcases HLM.out with hkk | hkk
        · have hk1 : (kk == GA + GB) = true := by simp [hkk]
          clear HFIN hkk HLM
          go_wp2_with fail
          refine wp_region_held_drew (S := fun w' => w'.cell? ⟨v8.heap.size, 0, none⟩ = some (.bool b) ∧ w'.cell? ⟨v8.heap.size, 1, none⟩ = some (.slice Aa_ na_ ca_) ∧ w'.cell? ⟨v8.heap.size, 2, none⟩ = some (.int .i64 Ea)) (by kernel_rfl) (by exact ⟨x_x.c0, x_x.c1, x_x.c2⟩) (fun hHeld => ?_)
          refine wpAnyH_take (i := 0) (oi := ({ dst := some 64, op := Op.move (Operand.tmp 5), type := 4, pos := "law.go:122", after := #[], guard := none } : Oper)) (v := ?_) rfl (by kernel_rfl) (by kernel_rfl) (by kernel_rfl) (fun _ _ _ h => h) (Or.inl ⟨by rfl, ?_⟩) (by assumption) ?_
          rotate_left
          · (intro w9 hSw; (try dsimp only at hSw); go_simp; all_goals with_reducible rfl)
          (try simp only [Act.put, List.setIfInBounds_toArray, List.set_cons_zero, List.set_cons_succ])
          refine wpAnyH_take (i := 1) (oi := ({ dst := some 65, op := Op.move (Operand.tmp 64), type := 4, pos := "law.go:122", after := #[{ on := 0, ground := Ground.data }], guard := none } : Oper)) (v := ?_) rfl (by kernel_rfl) (by kernel_rfl) (by kernel_rfl) (fun _ _ _ h => h) (Or.inl ⟨by rfl, ?_⟩) (by assumption) ?_
          rotate_left
          · (intro w9 hSw; (try dsimp only at hSw); go_simp; all_goals with_reducible rfl)
          (try simp only [Act.put, List.setIfInBounds_toArray, List.set_cons_zero, List.set_cons_succ])
          refine wpAnyH_take (i := 2) (oi := ({ dst := some 66, op := Op.move (Operand.tmp 6), type := 3, pos := "law.go:122", after := #[{ on := 1, ground := Ground.guard }], guard := some (1, true) } : Oper)) (v := ?_) rfl (by kernel_rfl) (by kernel_rfl) (by kernel_rfl) (fun _ _ _ h => h) (Or.inl ⟨by rfl, ?_⟩) (by assumption) ?_
          rotate_left
          · (intro w9 hSw; (try dsimp only at hSw); go_simp; all_goals with_reducible rfl)
          (try simp only [Act.put, List.setIfInBounds_toArray, List.set_cons_zero, List.set_cons_succ])
          refine wpAnyH_take (i := 4) (oi := ({ dst := some 68, op := Op.load 26 (Operand.tmp 10), type := 26, pos := "law.go:122", after := #[{ on := 1, ground := Ground.guard }], guard := some (1, true) } : Oper)) (v := ?_) rfl (by kernel_rfl) (by kernel_rfl) (by kernel_rfl) (fun _ _ _ h => h) (Or.inl ⟨by rfl, ?_⟩) (by assumption) ?_
          rotate_left
          · (intro w9 hSw; (try dsimp only at hSw); go_simp; all_goals with_reducible rfl)
          (try simp only [Act.put, List.setIfInBounds_toArray, List.set_cons_zero, List.set_cons_succ])
          refine wpAnyH_ready (rs := [3]) (by kernel_rfl) (by simp) ?_
          refine AllReadyH.cons (o := ({ dst := some 67, op := Op.call { callee := Callee.value (Operand.func 43), args := #[Operand.const (Value.int IntKind.i64 1), Operand.tmp 66], argTypes := #[2, 3] }, type := 26, pos := "law.go:122", after := #[{ on := 2, ground := Ground.data }, { on := 1, ground := Ground.chain }, { on := 1, ground := Ground.guard }], guard := some (1, true) } : Oper)) rfl (fun K hK => ?_) AllReadyH.nil
          go_simp
          with_reducible refine (of_any 1 GA hT.drw (by omega) (by omega)).mono ?_
          rintro e v13 ⟨A7, n7, c7, rfl, z7, hb1⟩
          replace hb1 := undrew hb1
          replace x_a := x_a.keep hb1
          replace x_b := x_b.keep hb1
          replace x_x := x_x.keep hb1
          replace hT := hT.keep hb1
          replace za := za.keep hb1
          replace zb := zb.keep hb1
          replace hb := bthen hb hb1
          clear hb1
          replace q_a0 := x_a.c0; replace q_a1 := x_a.c1; replace f_a0 := x_a.fr 0; replace f_a1 := x_a.fr 1; replace q_a2 := x_a.c2; replace f_a2 := x_a.fr 2
          replace q_b0 := x_b.c0; replace q_b1 := x_b.c1; replace f_b0 := x_b.fr 0; replace f_b1 := x_b.fr 1; replace q_b2 := x_b.c2; replace f_b2 := x_b.fr 2
          replace q_x0 := x_x.c0; replace q_x1 := x_x.c1; replace f_x0 := x_x.fr 0; replace f_x1 := x_x.fr 1; replace q_x2 := x_x.c2; replace f_x2 := x_x.fr 2
          rw [HO.out.1.1] at z7 ⊢
          rw [HO.out.1.2]
          (try go_wp2_with fail)
          refine hK.out _ _ (by exact ⟨x_x.c0, x_x.c1, x_x.c2⟩) (fun hHeld => ?_)
          clear hK K
          (try simp only [Act.put, List.setIfInBounds_toArray, List.set_cons_zero, List.set_cons_succ])
          refine wpAnyH_ready (rs := [5]) (by kernel_rfl) (by simp) ?_
          refine AllReadyH.cons (o := ({ dst := some 69, op := Op.call { callee := Callee.value (Operand.func 20), args := #[Operand.tmp 67, Operand.tmp 68], argTypes := #[26, 26] }, type := 3, pos := "law.go:122", after := #[{ on := 3, ground := Ground.data }, { on := 4, ground := Ground.data }, { on := 3, ground := Ground.chain }, { on := 1, ground := Ground.guard }], guard := some (1, true) } : Oper)) rfl (fun K hK => ?_) AllReadyH.nil
          go_simp
          with_reducible refine (DCmp_any z7.zr za (by omega) (by omega)).mono ?_
          rintro e v14 ⟨rfl, hb1⟩
          replace x_a := x_a.keep hb1
          replace x_b := x_b.keep hb1
          replace x_x := x_x.keep hb1
          replace hT := hT.keep hb1
          replace za := za.keep hb1
          replace zb := zb.keep hb1
          replace z7 := z7.keep hb1
          replace hb := bthen hb hb1
          clear hb1
          replace q_a0 := x_a.c0; replace q_a1 := x_a.c1; replace f_a0 := x_a.fr 0; replace f_a1 := x_a.fr 1; replace q_a2 := x_a.c2; replace f_a2 := x_a.fr 2
          replace q_b0 := x_b.c0; replace q_b1 := x_b.c1; replace f_b0 := x_b.fr 0; replace f_b1 := x_b.fr 1; replace q_b2 := x_b.c2; replace f_b2 := x_b.fr 2
          replace q_x0 := x_x.c0; replace q_x1 := x_x.c1; replace f_x0 := x_x.fr 0; replace f_x1 := x_x.fr 1; replace q_x2 := x_x.c2; replace f_x2 := x_x.fr 2
          rw [HS1.out]
          (try go_wp2_with fail)
          refine hK.out _ _ (by exact ⟨x_x.c0, x_x.c1, x_x.c2⟩) (fun hHeld => ?_)
          clear hK K
          (try simp only [Act.put, List.setIfInBounds_toArray, List.set_cons_zero, List.set_cons_succ])
          refine wpAnyH_take (i := 6) (oi := ({ dst := some 70, op := Op.binOp BinOp.leq 3 (Operand.tmp 69) (Operand.const (Value.int IntKind.i64 0)) 3, type := 4, pos := "law.go:122", after := #[{ on := 5, ground := Ground.data }, { on := 1, ground := Ground.guard }], guard := some (1, true) } : Oper)) (v := ?_) rfl (by kernel_rfl) (by kernel_rfl) (by kernel_rfl) (fun _ _ _ h => h) (Or.inl ⟨by rfl, ?_⟩) (by assumption) ?_
          rotate_left
          · (intro w9 hSw; (try dsimp only at hSw); go_simp; all_goals with_reducible rfl)
          (try simp only [Act.put, List.setIfInBounds_toArray, List.set_cons_zero, List.set_cons_succ])
          refine wpAnyH_take (i := 7) (oi := ({ dst := some 71, op := Op.pick (Operand.tmp 65) (Operand.tmp 70) (Operand.const (Value.bool false)), type := 4, pos := "law.go:122", after := #[{ on := 1, ground := Ground.data }, { on := 6, ground := Ground.data }], guard := none } : Oper)) (v := ?_) rfl (by kernel_rfl) (by kernel_rfl) (by kernel_rfl) (fun _ _ _ h => h) (Or.inl ⟨by rfl, ?_⟩) (by assumption) ?_
          rotate_left
          · (intro w9 hSw; (try dsimp only at hSw); go_simp; all_goals with_reducible rfl)
          (try simp only [Act.put, List.setIfInBounds_toArray, List.set_cons_zero, List.set_cons_succ])
          refine wpAnyH_take (i := 8) (oi := ({ dst := some 72, op := Op.move (Operand.tmp 71), type := 4, pos := "law.go:122", after := #[{ on := 7, ground := Ground.data }, { on := 5, ground := Ground.chain }], guard := none } : Oper)) (v := ?_) rfl (by kernel_rfl) (by kernel_rfl) (by kernel_rfl) (fun _ _ _ h => h) (Or.inl ⟨by rfl, ?_⟩) (by assumption) ?_
          rotate_left
          · (intro w9 hSw; (try dsimp only at hSw); go_simp; all_goals with_reducible rfl)
          (try simp only [Act.put, List.setIfInBounds_toArray, List.set_cons_zero, List.set_cons_succ])
          refine wpAnyH_take (i := 9) (oi := ({ dst := some 73, op := Op.load 26 (Operand.tmp 10), type := 26, pos := "law.go:122", after := #[{ on := 8, ground := Ground.guard }], guard := some (8, true) } : Oper)) (v := ?_) rfl (by kernel_rfl) (by kernel_rfl) (by kernel_rfl) (fun _ _ _ h => h) (Or.inl ⟨by rfl, ?_⟩) (by assumption) ?_
          rotate_left
          · (intro w9 hSw; (try dsimp only at hSw); go_simp; all_goals with_reducible rfl)
          (try simp only [Act.put, List.setIfInBounds_toArray, List.set_cons_zero, List.set_cons_succ])
          refine wpAnyH_take (i := 10) (oi := ({ dst := some 74, op := Op.move (Operand.tmp 6), type := 3, pos := "law.go:122", after := #[{ on := 8, ground := Ground.guard }], guard := some (8, true) } : Oper)) (v := ?_) rfl (by kernel_rfl) (by kernel_rfl) (by kernel_rfl) (fun _ _ _ h => h) (Or.inl ⟨by rfl, ?_⟩) (by assumption) ?_
          rotate_left
          · (intro w9 hSw; (try dsimp only at hSw); go_simp; all_goals with_reducible rfl)
          (try simp only [Act.put, List.setIfInBounds_toArray, List.set_cons_zero, List.set_cons_succ])
          refine wpAnyH_take (i := 11) (oi := ({ dst := some 75, op := Op.binOp BinOp.add 3 (Operand.tmp 74) (Operand.const (Value.int IntKind.i64 1)) 3, type := 3, pos := "law.go:122", after := #[{ on := 10, ground := Ground.data }, { on := 8, ground := Ground.guard }], guard := some (8, true) } : Oper)) (v := ?_) rfl (by kernel_rfl) (by kernel_rfl) (by kernel_rfl) (fun _ _ _ h => h) (Or.inl ⟨by rfl, ?_⟩) (by assumption) ?_
          rotate_left
          · (intro w9 hSw; (try dsimp only at hSw); go_simp; all_goals with_reducible rfl)
          (try simp only [Act.put, List.setIfInBounds_toArray, List.set_cons_zero, List.set_cons_succ])
          refine wpAnyH_ready (rs := [12]) (by kernel_rfl) (by simp) ?_
          refine AllReadyH.cons (o := ({ dst := some 76, op := Op.call { callee := Callee.value (Operand.func 43), args := #[Operand.const (Value.int IntKind.i64 1), Operand.tmp 75], argTypes := #[2, 3] }, type := 26, pos := "law.go:122", after := #[{ on := 11, ground := Ground.data }, { on := 8, ground := Ground.chain }, { on := 8, ground := Ground.guard }], guard := some (8, true) } : Oper)) rfl (fun K hK => ?_) AllReadyH.nil
          go_simp
          with_reducible refine (of_any 1 GC hT (by omega) (by omega)).mono ?_
          rintro e v15 ⟨A8, n8, c8, rfl, z8, hb1⟩
          replace x_a := x_a.keep hb1
          replace x_b := x_b.keep hb1
          replace x_x := x_x.keep hb1
          replace hT := hT.keep hb1
          replace za := za.keep hb1
          replace zb := zb.keep hb1
          replace z7 := z7.keep hb1
          replace hb := bthen hb hb1
          clear hb1
          replace q_a0 := x_a.c0; replace q_a1 := x_a.c1; replace f_a0 := x_a.fr 0; replace f_a1 := x_a.fr 1; replace q_a2 := x_a.c2; replace f_a2 := x_a.fr 2
          replace q_b0 := x_b.c0; replace q_b1 := x_b.c1; replace f_b0 := x_b.fr 0; replace f_b1 := x_b.fr 1; replace q_b2 := x_b.c2; replace f_b2 := x_b.fr 2
          replace q_x0 := x_x.c0; replace q_x1 := x_x.c1; replace f_x0 := x_x.fr 0; replace f_x1 := x_x.fr 1; replace q_x2 := x_x.c2; replace f_x2 := x_x.fr 2
          rw [HO.out.2.1] at z8 ⊢
          rw [HO.out.2.2]
          (try go_wp2_with fail)
          refine hK.out _ _ (by exact ⟨x_x.c0, x_x.c1, x_x.c2⟩) (fun hHeld => ?_)
          clear hK K
          (try simp only [Act.put, List.setIfInBounds_toArray, List.set_cons_zero, List.set_cons_succ])
          refine wpAnyH_ready (rs := [13]) (by kernel_rfl) (by simp) ?_
          refine AllReadyH.cons (o := ({ dst := some 77, op := Op.call { callee := Callee.value (Operand.func 20), args := #[Operand.tmp 73, Operand.tmp 76], argTypes := #[26, 26] }, type := 3, pos := "law.go:122", after := #[{ on := 9, ground := Ground.data }, { on := 12, ground := Ground.data }, { on := 12, ground := Ground.chain }, { on := 8, ground := Ground.guard }], guard := some (8, true) } : Oper)) rfl (fun K hK => ?_) AllReadyH.nil
          go_simp
          with_reducible refine (DCmp_any za z8.zr (by omega) (by omega)).mono ?_
          rintro e v16 ⟨rfl, hb1⟩
          replace x_a := x_a.keep hb1
          replace x_b := x_b.keep hb1
          replace x_x := x_x.keep hb1
          replace hT := hT.keep hb1
          replace za := za.keep hb1
          replace zb := zb.keep hb1
          replace z7 := z7.keep hb1
          replace z8 := z8.keep hb1
          replace hb := bthen hb hb1
          clear hb1
          replace q_a0 := x_a.c0; replace q_a1 := x_a.c1; replace f_a0 := x_a.fr 0; replace f_a1 := x_a.fr 1; replace q_a2 := x_a.c2; replace f_a2 := x_a.fr 2
          replace q_b0 := x_b.c0; replace q_b1 := x_b.c1; replace f_b0 := x_b.fr 0; replace f_b1 := x_b.fr 1; replace q_b2 := x_b.c2; replace f_b2 := x_b.fr 2
          replace q_x0 := x_x.c0; replace q_x1 := x_x.c1; replace f_x0 := x_x.fr 0; replace f_x1 := x_x.fr 1; replace q_x2 := x_x.c2; replace f_x2 := x_x.fr 2
          rw [HS2.out]
          (try go_wp2_with fail)
          refine hK.out _ _ (by exact ⟨x_x.c0, x_x.c1, x_x.c2⟩) (fun hHeld => ?_)
          clear hK K
          (try simp only [Act.put, List.setIfInBounds_toArray, List.set_cons_zero, List.set_cons_succ])
          refine wpAnyH_take (i := 14) (oi := ({ dst := some 78, op := Op.binOp BinOp.lss 3 (Operand.tmp 77) (Operand.const (Value.int IntKind.i64 0)) 3, type := 4, pos := "law.go:122", after := #[{ on := 13, ground := Ground.data }, { on := 8, ground := Ground.guard }], guard := some (8, true) } : Oper)) (v := ?_) rfl (by kernel_rfl) (by kernel_rfl) (by kernel_rfl) (fun _ _ _ h => h) (Or.inl ⟨by rfl, ?_⟩) (by assumption) ?_
          rotate_left
          · (intro w9 hSw; (try dsimp only at hSw); go_simp; all_goals with_reducible rfl)
          (try simp only [Act.put, List.setIfInBounds_toArray, List.set_cons_zero, List.set_cons_succ])
          refine wpAnyH_take (i := 15) (oi := ({ dst := some 79, op := Op.pick (Operand.tmp 72) (Operand.tmp 78) (Operand.const (Value.bool false)), type := 4, pos := "law.go:122", after := #[{ on := 8, ground := Ground.data }, { on := 14, ground := Ground.data }], guard := none } : Oper)) (v := ?_) rfl (by kernel_rfl) (by kernel_rfl) (by kernel_rfl) (fun _ _ _ h => h) (Or.inl ⟨by rfl, ?_⟩) (by assumption) ?_
          rotate_left
          · (intro w9 hSw; (try dsimp only at hSw); go_simp; all_goals with_reducible rfl)
          (try simp only [Act.put, List.setIfInBounds_toArray, List.set_cons_zero, List.set_cons_succ])
          refine wpAnyH_take (i := 16) (oi := ({ dst := some 80, op := Op.move (Operand.tmp 79), type := 4, pos := "law.go:122", after := #[{ on := 15, ground := Ground.data }, { on := 13, ground := Ground.chain }], guard := none } : Oper)) (v := ?_) rfl (by kernel_rfl) (by kernel_rfl) (by kernel_rfl) (fun _ _ _ h => h) (Or.inl ⟨by rfl, ?_⟩) (by assumption) ?_
          rotate_left
          · (intro w9 hSw; (try dsimp only at hSw); go_simp; all_goals with_reducible rfl)
          (try simp only [Act.put, List.setIfInBounds_toArray, List.set_cons_zero, List.set_cons_succ])
          refine wpAnyH_take (i := 17) (oi := ({ dst := some 81, op := Op.move (Operand.tmp 11), type := 3, pos := "law.go:122", after := #[{ on := 16, ground := Ground.guard }], guard := some (16, true) } : Oper)) (v := ?_) rfl (by kernel_rfl) (by kernel_rfl) (by kernel_rfl) (fun _ _ _ h => h) (Or.inl ⟨by rfl, ?_⟩) (by assumption) ?_
          rotate_left
          · (intro w9 hSw; (try dsimp only at hSw); go_simp; all_goals with_reducible rfl)
          (try simp only [Act.put, List.setIfInBounds_toArray, List.set_cons_zero, List.set_cons_succ])
          refine wpAnyH_take (i := 18) (oi := ({ dst := some 82, op := Op.move (Operand.tmp 6), type := 3, pos := "law.go:122", after := #[{ on := 16, ground := Ground.guard }], guard := some (16, true) } : Oper)) (v := ?_) rfl (by kernel_rfl) (by kernel_rfl) (by kernel_rfl) (fun _ _ _ h => h) (Or.inl ⟨by rfl, ?_⟩) (by assumption) ?_
          rotate_left
          · (intro w9 hSw; (try dsimp only at hSw); go_simp; all_goals with_reducible rfl)
          (try simp only [Act.put, List.setIfInBounds_toArray, List.set_cons_zero, List.set_cons_succ])
          refine wpAnyH_take (i := 19) (oi := ({ dst := some 83, op := Op.move (Operand.tmp 8), type := 3, pos := "law.go:122", after := #[{ on := 16, ground := Ground.guard }], guard := some (16, true) } : Oper)) (v := ?_) rfl (by kernel_rfl) (by kernel_rfl) (by kernel_rfl) (fun _ _ _ h => h) (Or.inl ⟨by rfl, ?_⟩) (by assumption) ?_
          rotate_left
          · (intro w9 hSw; (try dsimp only at hSw); go_simp; all_goals with_reducible rfl)
          (try simp only [Act.put, List.setIfInBounds_toArray, List.set_cons_zero, List.set_cons_succ])
          refine wpAnyH_take (i := 20) (oi := ({ dst := some 84, op := Op.binOp BinOp.add 3 (Operand.tmp 82) (Operand.tmp 83) 3, type := 3, pos := "law.go:122", after := #[{ on := 18, ground := Ground.data }, { on := 19, ground := Ground.data }, { on := 16, ground := Ground.guard }], guard := some (16, true) } : Oper)) (v := ?_) rfl (by kernel_rfl) (by kernel_rfl) (by kernel_rfl) (fun _ _ _ h => h) (Or.inl ⟨by rfl, ?_⟩) (by assumption) ?_
          rotate_left
          · (intro w9 hSw; (try dsimp only at hSw); go_simp; all_goals with_reducible rfl)
          (try simp only [Act.put, List.setIfInBounds_toArray, List.set_cons_zero, List.set_cons_succ])
          refine wpAnyH_take (i := 21) (oi := ({ dst := some 85, op := Op.binOp BinOp.eql 3 (Operand.tmp 81) (Operand.tmp 84) 3, type := 4, pos := "law.go:122", after := #[{ on := 17, ground := Ground.data }, { on := 20, ground := Ground.data }, { on := 16, ground := Ground.guard }], guard := some (16, true) } : Oper)) (v := ?_) rfl (by kernel_rfl) (by kernel_rfl) (by kernel_rfl) (fun _ _ _ h => h) (Or.inl ⟨by rfl, ?_⟩) (by assumption) ?_
          rotate_left
          · (intro w9 hSw; (try dsimp only at hSw); go_simp; all_goals with_reducible rfl)
          (try simp only [Act.put, List.setIfInBounds_toArray, List.set_cons_zero, List.set_cons_succ])
          refine wpAnyH_take (i := 22) (oi := ({ dst := some 86, op := Op.move (Operand.tmp 85), type := 4, pos := "law.go:122", after := #[{ on := 21, ground := Ground.data }, { on := 16, ground := Ground.chain }, { on := 16, ground := Ground.guard }], guard := some (16, true) } : Oper)) (v := ?_) rfl (by kernel_rfl) (by kernel_rfl) (by kernel_rfl) (fun _ _ _ h => h) (Or.inl ⟨by rfl, ?_⟩) (by assumption) ?_
          rotate_left
          · (intro w9 hSw; (try dsimp only at hSw); go_simp; all_goals with_reducible rfl)
          (try simp only [Act.put, List.setIfInBounds_toArray, List.set_cons_zero, List.set_cons_succ])
          refine wpAnyH_take (i := 23) (oi := ({ dst := some 87, op := Op.move (Operand.tmp 11), type := 3, pos := "law.go:122", after := #[{ on := 22, ground := Ground.guard }], guard := some (22, false) } : Oper)) (v := undef) rfl (by kernel_rfl) (by kernel_rfl) (by kernel_rfl) (fun _ _ _ h => h) (Or.inr ⟨by rfl, rfl⟩) (by assumption) ?_
          (try simp only [Act.put, List.setIfInBounds_toArray, List.set_cons_zero, List.set_cons_succ])
          refine wpAnyH_take (i := 24) (oi := ({ dst := some 88, op := Op.move (Operand.tmp 6), type := 3, pos := "law.go:122", after := #[{ on := 22, ground := Ground.guard }], guard := some (22, false) } : Oper)) (v := undef) rfl (by kernel_rfl) (by kernel_rfl) (by kernel_rfl) (fun _ _ _ h => h) (Or.inr ⟨by rfl, rfl⟩) (by assumption) ?_
          (try simp only [Act.put, List.setIfInBounds_toArray, List.set_cons_zero, List.set_cons_succ])
          refine wpAnyH_take (i := 25) (oi := ({ dst := some 89, op := Op.move (Operand.tmp 8), type := 3, pos := "law.go:122", after := #[{ on := 22, ground := Ground.guard }], guard := some (22, false) } : Oper)) (v := undef) rfl (by kernel_rfl) (by kernel_rfl) (by kernel_rfl) (fun _ _ _ h => h) (Or.inr ⟨by rfl, rfl⟩) (by assumption) ?_
          (try simp only [Act.put, List.setIfInBounds_toArray, List.set_cons_zero, List.set_cons_succ])
          refine wpAnyH_take (i := 26) (oi := ({ dst := some 90, op := Op.binOp BinOp.add 3 (Operand.tmp 88) (Operand.tmp 89) 3, type := 3, pos := "law.go:122", after := #[{ on := 24, ground := Ground.data }, { on := 25, ground := Ground.data }, { on := 22, ground := Ground.guard }], guard := some (22, false) } : Oper)) (v := undef) rfl (by kernel_rfl) (by kernel_rfl) (by kernel_rfl) (fun _ _ _ h => h) (Or.inr ⟨by rfl, rfl⟩) (by assumption) ?_
          (try simp only [Act.put, List.setIfInBounds_toArray, List.set_cons_zero, List.set_cons_succ])
          refine wpAnyH_take (i := 27) (oi := ({ dst := some 91, op := Op.binOp BinOp.add 3 (Operand.tmp 90) (Operand.const (Value.int IntKind.i64 1)) 3, type := 3, pos := "law.go:122", after := #[{ on := 26, ground := Ground.data }, { on := 22, ground := Ground.guard }], guard := some (22, false) } : Oper)) (v := undef) rfl (by kernel_rfl) (by kernel_rfl) (by kernel_rfl) (fun _ _ _ h => h) (Or.inr ⟨by rfl, rfl⟩) (by assumption) ?_
          (try simp only [Act.put, List.setIfInBounds_toArray, List.set_cons_zero, List.set_cons_succ])
          refine wpAnyH_take (i := 28) (oi := ({ dst := some 92, op := Op.binOp BinOp.eql 3 (Operand.tmp 87) (Operand.tmp 91) 3, type := 4, pos := "law.go:122", after := #[{ on := 23, ground := Ground.data }, { on := 27, ground := Ground.data }, { on := 22, ground := Ground.guard }], guard := some (22, false) } : Oper)) (v := undef) rfl (by kernel_rfl) (by kernel_rfl) (by kernel_rfl) (fun _ _ _ h => h) (Or.inr ⟨by rfl, rfl⟩) (by assumption) ?_
          (try simp only [Act.put, List.setIfInBounds_toArray, List.set_cons_zero, List.set_cons_succ])
          refine wpAnyH_take (i := 29) (oi := ({ dst := some 93, op := Op.pick (Operand.tmp 86) (Operand.const (Value.bool true)) (Operand.tmp 92), type := 4, pos := "law.go:122", after := #[{ on := 22, ground := Ground.data }, { on := 28, ground := Ground.data }, { on := 16, ground := Ground.guard }], guard := some (16, true) } : Oper)) (v := ?_) rfl (by kernel_rfl) (by kernel_rfl) (by kernel_rfl) (fun _ _ _ h => h) (Or.inl ⟨by rfl, ?_⟩) (by assumption) ?_
          rotate_left
          · (intro w9 hSw; (try dsimp only at hSw); go_simp; all_goals with_reducible rfl)
          (try simp only [Act.put, List.setIfInBounds_toArray, List.set_cons_zero, List.set_cons_succ])
          refine wpAnyH_take (i := 30) (oi := ({ dst := some 94, op := Op.pick (Operand.tmp 80) (Operand.tmp 93) (Operand.const (Value.bool false)), type := 4, pos := "law.go:122", after := #[{ on := 16, ground := Ground.data }, { on := 29, ground := Ground.data }], guard := none } : Oper)) (v := ?_) rfl (by kernel_rfl) (by kernel_rfl) (by kernel_rfl) (fun _ _ _ h => h) (Or.inl ⟨by rfl, ?_⟩) (by assumption) ?_
          rotate_left
          · (intro w9 hSw; (try dsimp only at hSw); go_simp; all_goals with_reducible rfl)
          (try simp only [Act.put, List.setIfInBounds_toArray, List.set_cons_zero, List.set_cons_succ])
          refine wpAnyH_take (i := 31) (oi := ({ dst := some 4, op := Op.assign (Operand.tmp 94), type := 4, pos := "law.go:122", after := #[{ on := 30, ground := Ground.data }, { on := 22, ground := Ground.chain }, { on := 0, ground := Ground.phase }, { on := 1, ground := Ground.phase }, { on := 2, ground := Ground.phase }, { on := 3, ground := Ground.phase }, { on := 4, ground := Ground.phase }, { on := 5, ground := Ground.phase }, { on := 6, ground := Ground.phase }, { on := 7, ground := Ground.phase }, { on := 8, ground := Ground.phase }, { on := 9, ground := Ground.phase }, { on := 10, ground := Ground.phase }, { on := 11, ground := Ground.phase }, { on := 12, ground := Ground.phase }, { on := 13, ground := Ground.phase }, { on := 14, ground := Ground.phase }, { on := 15, ground := Ground.phase }, { on := 16, ground := Ground.phase }, { on := 17, ground := Ground.phase }, { on := 18, ground := Ground.phase }, { on := 19, ground := Ground.phase }, { on := 20, ground := Ground.phase }, { on := 21, ground := Ground.phase }, { on := 22, ground := Ground.phase }, { on := 23, ground := Ground.phase }, { on := 24, ground := Ground.phase }, { on := 25, ground := Ground.phase }, { on := 26, ground := Ground.phase }, { on := 27, ground := Ground.phase }, { on := 28, ground := Ground.phase }, { on := 29, ground := Ground.phase }, { on := 30, ground := Ground.phase }], guard := none } : Oper)) (v := ?_) rfl (by kernel_rfl) (by kernel_rfl) (by kernel_rfl) (fun _ _ _ h => h) (Or.inl ⟨by rfl, ?_⟩) (by assumption) ?_
          rotate_left
          · (intro w9 hSw; (try dsimp only at hSw); go_simp; all_goals with_reducible rfl)
          (try simp only [Act.put, List.setIfInBounds_toArray, List.set_cons_zero, List.set_cons_succ])
          refine wpAnyH_done (by kernel_rfl) ?_ _
          all_goals go_wp2
          all_goals go_ret
          all_goals exact ⟨rfl, hb⟩
        · have hk1 : (kk == GA + GB) = false := by rw [beq_eq_false_iff_ne]; omega
          have hk2 : (kk == GA + GB + 1) = true := by simp [hkk]
          clear HFIN hkk HLM
          go_wp2_with fail
          first | (go_region_held3 (fun w' => w'.cell? ⟨v8.heap.size, 0, none⟩ = some (.bool b) ∧ w'.cell? ⟨v8.heap.size, 1, none⟩ = some (.slice Aa_ na_ ca_) ∧ w'.cell? ⟨v8.heap.size, 2, none⟩ = some (.int .i64 Ea)) (first | (with_reducible exact ⟨x_x.c0, x_x.c1, x_x.c2⟩) | (with_reducible exact ⟨(x_x.aside (by omega)).c0, (x_x.aside (by omega)).c1, (x_x.aside (by omega)).c2⟩) | (with_reducible exact ⟨((x_x.aside (by omega)).aside (by omega)).c0, ((x_x.aside (by omega)).aside (by omega)).c1, ((x_x.aside (by omega)).aside (by omega)).c2⟩) | (with_reducible exact ⟨(x_x.asideD (by omega)).c0, (x_x.asideD (by omega)).c1, (x_x.asideD (by omega)).c2⟩) | (with_reducible exact ⟨((x_x.asideD (by omega)).asideD (by omega)).c0, ((x_x.asideD (by omega)).asideD (by omega)).c1, ((x_x.asideD (by omega)).asideD (by omega)).c2⟩) | go_keep) (first | (go_at_call 43; (with_reducible refine (of_any 1 GA hT.drw (by omega) (by omega)).mono ?_); rintro e v13 ⟨A7, n7, c7, rfl, z7, hb1⟩; replace hb1 := undrew hb1; replace x_a := x_a.keep hb1; replace x_b := x_b.keep hb1; replace x_x := x_x.keep hb1; replace hT := hT.keep hb1; replace za := za.keep hb1; replace zb := zb.keep hb1; replace hb := bthen hb hb1; clear hb1; replace q_a0 := x_a.c0; replace q_a1 := x_a.c1; replace f_a0 := x_a.fr 0; replace f_a1 := x_a.fr 1; replace q_a2 := x_a.c2; replace f_a2 := x_a.fr 2; replace q_b0 := x_b.c0; replace q_b1 := x_b.c1; replace f_b0 := x_b.fr 0; replace f_b1 := x_b.fr 1; replace q_b2 := x_b.c2; replace f_b2 := x_b.fr 2; replace q_x0 := x_x.c0; replace q_x1 := x_x.c1; replace f_x0 := x_x.fr 0; replace f_x1 := x_x.fr 1; replace q_x2 := x_x.c2; replace f_x2 := x_x.fr 2; rw [HO.out.1.1] at z7 ⊢; rw [HO.out.1.2]) | (go_at_call 20; (with_reducible refine (DCmp_any z7.zr za (by omega) (by omega)).mono ?_); rintro e v14 ⟨rfl, hb1⟩; replace x_a := x_a.keep hb1; replace x_b := x_b.keep hb1; replace x_x := x_x.keep hb1; replace hT := hT.keep hb1; replace za := za.keep hb1; replace zb := zb.keep hb1; replace z7 := z7.keep hb1; replace hb := bthen hb hb1; clear hb1; replace q_a0 := x_a.c0; replace q_a1 := x_a.c1; replace f_a0 := x_a.fr 0; replace f_a1 := x_a.fr 1; replace q_a2 := x_a.c2; replace f_a2 := x_a.fr 2; replace q_b0 := x_b.c0; replace q_b1 := x_b.c1; replace f_b0 := x_b.fr 0; replace f_b1 := x_b.fr 1; replace q_b2 := x_b.c2; replace f_b2 := x_b.fr 2; replace q_x0 := x_x.c0; replace q_x1 := x_x.c1; replace f_x0 := x_x.fr 0; replace f_x1 := x_x.fr 1; replace q_x2 := x_x.c2; replace f_x2 := x_x.fr 2; rw [HS1.out]) | (go_at_call 43; (with_reducible refine (of_any 1 GC hT (by omega) (by omega)).mono ?_); rintro e v15 ⟨A8, n8, c8, rfl, z8, hb1⟩; replace x_a := x_a.keep hb1; replace x_b := x_b.keep hb1; replace x_x := x_x.keep hb1; replace hT := hT.keep hb1; replace za := za.keep hb1; replace zb := zb.keep hb1; replace z7 := z7.keep hb1; replace hb := bthen hb hb1; clear hb1; replace q_a0 := x_a.c0; replace q_a1 := x_a.c1; replace f_a0 := x_a.fr 0; replace f_a1 := x_a.fr 1; replace q_a2 := x_a.c2; replace f_a2 := x_a.fr 2; replace q_b0 := x_b.c0; replace q_b1 := x_b.c1; replace f_b0 := x_b.fr 0; replace f_b1 := x_b.fr 1; replace q_b2 := x_b.c2; replace f_b2 := x_b.fr 2; replace q_x0 := x_x.c0; replace q_x1 := x_x.c1; replace f_x0 := x_x.fr 0; replace f_x1 := x_x.fr 1; replace q_x2 := x_x.c2; replace f_x2 := x_x.fr 2; rw [HO.out.2.1] at z8 ⊢; rw [HO.out.2.2]) | (go_at_call 20; (with_reducible refine (DCmp_any za z8.zr (by omega) (by omega)).mono ?_); rintro e v16 ⟨rfl, hb1⟩; replace x_a := x_a.keep hb1; replace x_b := x_b.keep hb1; replace x_x := x_x.keep hb1; replace hT := hT.keep hb1; replace za := za.keep hb1; replace zb := zb.keep hb1; replace z7 := z7.keep hb1; replace z8 := z8.keep hb1; replace hb := bthen hb hb1; clear hb1; replace q_a0 := x_a.c0; replace q_a1 := x_a.c1; replace f_a0 := x_a.fr 0; replace f_a1 := x_a.fr 1; replace q_a2 := x_a.c2; replace f_a2 := x_a.fr 2; replace q_b0 := x_b.c0; replace q_b1 := x_b.c1; replace f_b0 := x_b.fr 0; replace f_b1 := x_b.fr 1; replace q_b2 := x_b.c2; replace f_b2 := x_b.fr 2; replace q_x0 := x_x.c0; replace q_x1 := x_x.c1; replace f_x0 := x_x.fr 0; replace f_x1 := x_x.fr 1; replace q_x2 := x_x.c2; replace f_x2 := x_x.fr 2; rw [HS2.out]))) | fail
          all_goals go_wp2
          all_goals go_ret
          all_goals exact ⟨rfl, hb⟩
end
end Go.Proofs.YtcoidcbbdibnaaaDoor
namespace Go.Proofs.YtcoidcbbdibnaaaDoor
section
open Go.Joins Go.ChangeShapes Go.WideShapes Go.ChangeAt Go.RowKit
set_option linter.unusedVariables false

set_option maxRecDepth 100000 in
theorem DyadLogs_lifted (os : Go.Os) (started : os.Started) (H : Type) (enc : TypeId × Value → H) :
    ReturnsInHanded {} Tryd.checked os 8 .any (fun w args => (Rows.dyadLogsSpec.pre enc Tryd.prog Tryd.f8 [] false w args ∧ laidMetH Tryd.prog laidT w) ∧ sizedMet enc Tryd.prog Tryd.f8 (OpenSpec.ofChange Rows.dyadLogsSpec) false w args)
      (Rows.dyadLogsSpec.post enc Tryd.prog Tryd.f8 false true false false) := by
  refine returnsInHanded_of_change_and (C := Tryd.checked) (X := fun w _ => laidMetH Tryd.prog laidT w) (fun _ _ _ hh h => h.of_heap hh) Tryd.own started (by kernel_rfl) Tryd.func8
    (ChangeSpec.witness_shaped (enc := enc) (C := Tryd.checked) (os := os) (X := fun w _ => laidMetH Tryd.prog laidT w) false (World.doorLaid Tryd.prog 400 os) #[.agg #[.bool false, .slice none 0 0, .int .i64 0], .agg #[.bool false, .slice none 0 0, .int .i64 0]] 8 rfl (World.shaped_of_RefB (by kernel_rfl) (by kernel_rfl)) (by kernel_rfl) (by kernel_rfl) (by kernel_rfl) (door_met os _)) ?_
  intro W base args ds gs before hval0 hW _ hsz0 hL _
  have hsz : (DataW.weightsEach Tryd.prog (Tryd.f8.params.toList ++ Rows.dyadLogsSpec.plain.varTypes Tryd.prog) (ds ++ gs)).all (· ≤ reachBytes) = true := hsz0
  clear hsz0
  have hval : ∀ (j : Nat) t v, Tryd.f8.params[j]? = some t → args[j]? = some v → Value.okWide Tryd.prog W .any base t v := hval0
  have hW' := hW
  obtain ⟨p, q, hA0, hV, rfl, _, _⟩ := hW
  have hA : DataW.TrodAll enc Tryd.prog W 0 (fun _ => true) true Tryd.f8.params.toList args.toList ds p := hA0
  rw [Tryd.params8] at hA hval hsz
  obtain ⟨v0, vs0, d0, ds0, p0, q0, hargs, rfl, rfl, h0, r0⟩ := trodAll_cons hA
  obtain ⟨v1, vs1, d1, ds1, p1, q1, rfl, rfl, rfl, h1, r1⟩ := trodAll_cons r0
  obtain ⟨rfl, rfl, rfl⟩ := trodAll_nil r1
  obtain rfl : args = #[v0, v1] := by cases args; simp_all
  obtain ⟨rfl, rfl⟩ := trodVars_none hV
  clear hA0 hval0 hA
  simp only [List.append_nil] at hW'
  have hlt0 : ∀ x ∈ p0, x.block < W.heap.size := fun x hx => by simpa using hW'.lt x (by simp [hx])
  have hlt1 : ∀ x ∈ p1, x.block < W.heap.size := fun x hx => by simpa using hW'.lt x (by simp [hx])
  have hback0 : ∀ W' : World, Below W.heap.size W W' → DataW.Trod enc Tryd.prog W' 0 (fun b => decide (b < W.heap.size)) true 26 v0 d0 p0 :=
    fun W' hn => Below.trod Tryd.laidOut (by kernel_rfl) (of_decide_eq_true (by kernel_rfl)) h0 hn hlt0
  obtain ⟨b0, A0, n0, c0, l0, e0, rfl, g0, ge0⟩ := open_d (hval 0 26 v0 rfl rfl) h0 hlt0 (fun dd de elems spare hd => sized_dmag hsz (j := 0) (d0 := dd) (d1 := de) rfl (by simp [hd]))
  have hback1 : ∀ W' : World, Below W.heap.size W W' → DataW.Trod enc Tryd.prog W' 0 (fun b => decide (b < W.heap.size)) true 26 v1 d1 p1 :=
    fun W' hn => Below.trod Tryd.laidOut (by kernel_rfl) (of_decide_eq_true (by kernel_rfl)) h1 hn hlt1
  obtain ⟨b1, A1, n1, c1, l1, e1, rfl, g1, ge1⟩ := open_d (hval 1 26 v1 rfl rfl) h1 hlt1 (fun dd de elems spare hd => sized_dmag hsz (j := 1) (d0 := dd) (d1 := de) rfl (by simp [hd]))
  refine (DyadLogs_any (tab_of_laid hL) g0 g1).mono fun e W' ⟨he, hb⟩ => ?_
  subst he
  exact ⟨_, rfl, _, _, _, [], _, [], hW', trodAll_mk1 (shut_bool Tryd.underlying4 _), (trodAll_cons_mk (hback0 _ hb) (trodAll_cons_mk (hback1 _ hb) trodAll_mk0)), rfl, hb.frame _, fun h => by cases h⟩

theorem DyadLogs_row : Rows.DyadLogsSaid :=
  OpenClaim.holds_of_wide 8 Tryd.f8 rfl rfl rfl rfl rfl rfl rfl ⟨rfl, rfl, rfl, rfl, rfl⟩ rfl rfl rfl rfl rfl (by kernel_rfl) Tryd.func8 (by kernel_rfl)
    (of_decide_eq_true (by kernel_rfl)) (by unfold Func.isWrapper; first | (rw [if_pos (by decide +kernel)]; kernel_rfl) | (rw [if_neg (by decide +kernel)]; exact ⟨rfl, rfl⟩))
    (fun os started H enc _ => DyadLogs_lifted os started H enc)
set_option maxRecDepth 100000 in
theorem DyadLogs_holds : Rows.DyadLogsCardSaid :=
  Claim7.holds_tied_plain_at .later [] [.data] true (true, "785c6cfebb1c4402e6dac8b8a0f000d6c160c57ee8e09e1552b177c778bf7ab1") false
    DyadLogs_row (fun _ h => by cases h) (by kernel_rfl) (fun _ h => by cases h) dyadLogs_row_tie rfl ⟨rfl, rfl⟩ (by kernel_rfl) rfl
    (fun f fn hf hfn => by
      obtain rfl : f = 8 := Option.some.inj ((show Tryd.prog.funcNamed "hairline/hairlinelaw03.DyadLogs" = some 8 by kernel_rfl).symm.trans hf) |>.symm
      obtain rfl : fn = Tryd.f8 := (Option.some.inj (Tryd.func8.symm.trans hfn)).symm
      exact ⟨by kernel_rfl, fun j t ht => by
        rw [Tryd.params8] at ht
        have hm : t ∈ [26, 26] := by simpa using Array.mem_of_getElem? ht
        have hall : ([26, 26].all fun u => !Tryd.prog.wantsStandIn u) = true := by kernel_rfl
        exact (show Tryd.prog.wantsStandIn t = false by simpa using List.all_eq_true.1 hall t hm)⟩)
    (by kernel_rfl)
end
end Go.Proofs.YtcoidcbbdibnaaaDoor
