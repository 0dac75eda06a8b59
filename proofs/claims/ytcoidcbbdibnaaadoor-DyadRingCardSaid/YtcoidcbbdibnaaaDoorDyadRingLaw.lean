/-
  The law DyadRing holds: for every input the call returns true, and each argument reads afterwards as it read before; the table of math/bits reads as the program's text lays it (the card ties it). No other condition.
-/
import Derived.Test.YtcoidcbbdibnaaaDoorSmall
import Derived.ProofKit
import Derived.SizedLaws
import Derived.OpenShut
import Derived.Test.YtcoidcbbdibnaaaDoorZint
import Derived.Lib.SmallJoins
import Derived.Test.YtcoidcbbdibnaaaDoorDint
import Derived.Test.YtcoidcbbdibnaaaDoorCards
import Derived.Test.YtcoidcbbdibnaaaDoorTie
import Derived.LaidMore
import Derived.SevenTiedAt
import Derived.Deep.DeepCutAuto
import Derived.Test.YtcoidcbbdibnaaaDoorZref
import Derived.Test.YtcoidcbbdibnaaaDoorDvd
import Derived.Test.YtcoidcbbdibnaaaDoorDshown
import Derived.Test.YtcoidcbbdibnaaaDoorDsmall
namespace Go.Proofs.YtcoidcbbdibnaaaDoor
section
open Go.ChangeShapes Go.WideShapes Go.ChangeAt Go.RowKit
set_option linter.unusedVariables false

theorem Tryd.own : ownKnob Tryd.prog.godebug = none := by kernel_rfl
theorem Tryd.laidOut : laidOutB Tryd.prog = true := by kernel_rfl
theorem Tryd.cells64 : Tryd.prog.cellsOf 31 = 1 := by kernel_rfl
theorem Tryd.bytes64 : Tryd.prog.bytesOf 31 = 8 := by kernel_rfl

theorem wf_lm {n : Int} (h : (Lit.int .u64 n).wf = true) : 0 ≤ n ∧ n < (Wd : Int) := by
  simp only [Lit.wf, Bool.and_eq_true, decide_eq_true_eq] at h
  have h1 : IntKind.u64.min = 0 := rfl
  have h2 : IntKind.u64.max = 18446744073709551615 := rfl
  rw [Wd_eq]; omega
theorem bounds_int {n : Int} (h : (Lit.int .i64 n).wf = true) : -9223372036854775808 ≤ n ∧ n ≤ 9223372036854775807 := by
  simp only [Lit.wf, Bool.and_eq_true, decide_eq_true_eq] at h
  have h1 : IntKind.i64.min = -9223372036854775808 := rfl
  have h2 : IntKind.i64.max = 9223372036854775807 := rfl
  omega

/-- A slice of limbs that came in. -/
theorem open_rd {H : Type} {enc : TypeId × Value → H} {W : World} {base : Nat} {v : Value} {d : DataW H} {ps : List MemPlace} (hok : Value.okWide Tryd.prog W .any base 22 v)
    (h : DataW.Trod enc Tryd.prog W 0 (fun _ => true) true 22 v d ps) (hlt : ∀ x ∈ ps, x.block < W.heap.size)
    (hsz : ∀ elems spare, d = .slice elems spare → (elems.length + spare.length) * Tryd.prog.bytesOf 31 ≤ reachBytes) : ∃ A n c l, v = .slice A n c ∧ Rd W W.heap.size A n c l := by
  obtain ⟨a0, len, cap, rfl⟩ := okWide_slice Tryd.underlying22 hok
  obtain ⟨fuel, hf⟩ := h
  rcases open_ints Tryd.underlying22 Tryd.underlying31 Tryd.cells64 hf with ⟨hcs, hx⟩ | ⟨a, len', cap', zs, hcs, _, hl, hm, hz, hx, hcell, hwz⟩
  · simp [Value.cells] at hcs
    obtain ⟨rfl, rfl, rfl⟩ := hcs
    exact ⟨_, _, _, [], rfl, Rd.nil⟩
  · simp [Value.cells] at hcs
    obtain ⟨rfl, rfl, rfl⟩ := hcs
    simp only [Prod.mk.injEq] at hx
    obtain ⟨rfl, rfl⟩ := hx
    simp only [if_true] at hz
    have hreach := hsz _ _ rfl
    rw [Tryd.bytes64] at hreach
    simp only [lits, List.length_map, List.length_take, List.length_drop, reachBytes] at hreach
    have hzl : (zs.take len).length = len := by simp; omega
    refine ⟨_, _, _, zs.take len, rfl, hzl, hl, by omega, fun x hx => wf_lm (hwz x (List.mem_of_mem_take hx)), fun hn => ?_⟩
    obtain ⟨b, off, spot⟩ := a
    have hspot : spot = none := by simpa [Addr.add] using World.cell?_spot (hcell 0 (by omega))
    subst hspot
    have hbW : b < W.heap.size := hlt (.cell b off) (MemPlace.mem_row.2 ⟨0, by omega, by simp⟩)
    refine ⟨b, off, rfl, hbW, fun k hk => ?_⟩
    have hk2 : k < zs.length := by omega
    rw [← add_plain, hcell k hk2, List.getElem_take]
    simp [List.getD, List.getElem?_eq_getElem hk2]
end
end Go.Proofs.YtcoidcbbdibnaaaDoor
namespace Go.Proofs.YtcoidcbbdibnaaaDoor
section
open Go.Joins Go.ChangeShapes Go.WideShapes Go.ChangeAt Go.RowKit
set_option linter.unusedVariables false

theorem Tryd.cellsInt : Tryd.prog.cellsOf 24 = 2 := by kernel_rfl

theorem sized_mag {H : Type} {ts : List TypeId} {ds : List (DataW H)} (h : (DataW.weightsEach Tryd.prog ts ds).all (· ≤ reachBytes) = true) {j : Nat} {d0 : DataW H} {elems spare : List (DataW H)} (ht : ts[j]? = some 24) (hd : ds[j]? = some (.agg [d0, .slice elems spare])) :
    (elems.length + spare.length) * Tryd.prog.bytesOf 31 ≤ reachBytes := by
  have := List.all_eq_true.1 h _ (DataW.weights_mem_each ht hd ((elems.length + spare.length) * Tryd.prog.bytesOf 31) (by simp [DataW.weights, DataW.weightsEach, Tryd.underlying24, Tryd.underlying22]))
  simpa using this

/-- An integer that came in. -/
theorem open_z {H : Type} {enc : TypeId × Value → H} {W : World} {base : Nat} {v : Value} {d : DataW H} {ps : List MemPlace} (hok : Value.okWide Tryd.prog W .any base 24 v)
    (h : DataW.Trod enc Tryd.prog W 0 (fun _ => true) true 24 v d ps) (hlt : ∀ x ∈ ps, x.block < W.heap.size)
    (hsz : ∀ d0 elems spare, d = .agg [d0, .slice elems spare] → (elems.length + spare.length) * Tryd.prog.bytesOf 31 ≤ reachBytes) : ∃ b A n c l, v = .agg #[.bool b, .slice A n c] ∧ Rd W W.heap.size A n c l := by
  obtain ⟨v0, v1, y0, y1, m, rfl, rfl, rfl, t0, t1⟩ := open_agg2 Tryd.underlying24 (by kernel_rfl) Tryd.cellsInt hok h
  obtain ⟨b, hb0, _⟩ := DataW.trod_bool Tryd.underlying4 t0
  injection hb0 with hb0 _
  subst hb0
  rcases open_ints Tryd.underlying22 Tryd.underlying31 Tryd.cells64 t1 with ⟨hcs, hx⟩ | ⟨a, len', cap', zs, hcs, _, hl, hm, hz, hx, hcell, hwz⟩
  · injection hcs with hcs _
    subst hcs
    exact ⟨b, _, _, _, [], rfl, Rd.nil⟩
  · injection hcs with hcs _
    subst hcs
    subst hx
    simp only [if_true] at hz
    have hreach := hsz _ _ _ rfl
    rw [Tryd.bytes64] at hreach
    simp only [lits, List.length_map, List.length_take, List.length_drop, reachBytes] at hreach
    have hzl : (zs.take len').length = len' := by simp; omega
    refine ⟨b, _, _, _, zs.take len', rfl, hzl, hl, by omega, fun x hx => wf_lm (hwz x (List.mem_of_mem_take hx)), fun hn => ?_⟩
    obtain ⟨b1, off, spot⟩ := a
    have hspot : spot = none := by simpa [Addr.add] using World.cell?_spot (hcell 0 (by omega))
    subst hspot
    have hbW : b1 < W.heap.size := hlt (.cell b1 off) (by rw [List.mem_append]; exact .inr (MemPlace.mem_row.2 ⟨0, by omega, by simp⟩))
    refine ⟨b1, off, rfl, hbW, fun k hk => ?_⟩
    have hk2 : k < zs.length := by omega
    rw [← add_plain, hcell k hk2, List.getElem_take]
    simp [List.getD, List.getElem?_eq_getElem hk2]
end
end Go.Proofs.YtcoidcbbdibnaaaDoor
namespace Go.Proofs.YtcoidcbbdibnaaaDoor
section
open Go.Joins Go.ChangeShapes Go.WideShapes Go.ChangeAt Go.RowKit
set_option linter.unusedVariables false

theorem Tryd.cellsDyad : Tryd.prog.cellsOf 26 = 3 := by kernel_rfl
theorem sized_dmag {H : Type} {ts : List TypeId} {ds : List (DataW H)} (h : (DataW.weightsEach Tryd.prog ts ds).all (· ≤ reachBytes) = true) {j : Nat} {d0 d1 : DataW H} {elems spare : List (DataW H)} (ht : ts[j]? = some 26) (hd : ds[j]? = some (.agg [.agg [d0, .slice elems spare], d1])) :
    (elems.length + spare.length) * Tryd.prog.bytesOf 31 ≤ reachBytes := by
  have := List.all_eq_true.1 h _ (DataW.weights_mem_each ht hd ((elems.length + spare.length) * Tryd.prog.bytesOf 31) (by simp [DataW.weights, DataW.weightsEach, Tryd.underlying26, Tryd.underlying24, Tryd.underlying22]))
  simpa using this
/-- A dyad that came in. -/
theorem open_d {H : Type} {enc : TypeId × Value → H} {W : World} {base : Nat} {v : Value} {d : DataW H} {ps : List MemPlace} (hok : Value.okWide Tryd.prog W .any base 26 v)
    (h : DataW.Trod enc Tryd.prog W 0 (fun _ => true) true 26 v d ps) (hlt : ∀ x ∈ ps, x.block < W.heap.size)
    (hsz : ∀ d0 d1 elems spare, d = .agg [.agg [d0, .slice elems spare], d1] → (elems.length + spare.length) * Tryd.prog.bytesOf 31 ≤ reachBytes) :
    ∃ b A n c l e, v = .agg #[.bool b, .slice A n c, .int .i64 e] ∧ Rd W W.heap.size A n c l ∧ (-9223372036854775808 ≤ e ∧ e ≤ 9223372036854775807) := by
  obtain ⟨cs, rfl, hcs⟩ := okWide_struct Tryd.underlying26 hok
  have hc3 : cs.size = 3 := hcs.trans Tryd.cellsDyad
  obtain ⟨fuel, hf⟩ := h
  obtain ⟨y0, y1, m, hx, _, t0, t1⟩ := trod_struct2 Tryd.underlying26 hf
  simp only [Prod.mk.injEq] at hx
  obtain ⟨rfl, rfl⟩ := hx
  obtain ⟨a0, a1, a2, rfl⟩ : ∃ a0 a1 a2, cs = #[a0, a1, a2] := by
    match cs, hc3 with
    | ⟨[a0, a1, a2]⟩, _ => exact ⟨a0, a1, a2, rfl⟩
  have hcI : Tryd.prog.cellsOf 24 = 2 := Tryd.cellsInt
  have hc1 : Tryd.prog.cellsOf 3 = 1 := by kernel_rfl
  simp only [Value.cells, hcI, hc1, List.drop_zero, List.take_succ_cons, List.take_zero, List.drop_succ_cons] at t0 t1
  obtain ⟨e, he1, he2, hwf⟩ := DataW.trod_int Tryd.underlying3 t1
  obtain ⟨z0, z1, m2, hy, _, s0, s1⟩ := trod_struct2 Tryd.underlying24 t0
  have hcb : Tryd.prog.cellsOf 4 = 1 := by kernel_rfl
  have hcs64 : Tryd.prog.cellsOf 22 = 1 := by kernel_rfl
  simp only [hcb, hcs64, List.drop_zero, List.take_succ_cons, List.take_zero, List.drop_succ_cons] at s0 s1
  obtain ⟨b, hb0, _⟩ := DataW.trod_bool Tryd.underlying4 s0
  injection hb0 with hb0 _
  subst hb0
  injection he1 with he1 _
  subst he1
  subst hy
  have hbd := bounds_int hwf
  rcases open_ints Tryd.underlying22 Tryd.underlying31 Tryd.cells64 s1 with ⟨hcs2, hx⟩ | ⟨a, len', cap', zs, hcs2, _, hl, hm, hz, hx, hcell, hwz⟩
  · injection hcs2 with hcs2 _
    subst hcs2
    exact ⟨b, _, _, _, [], e, rfl, Rd.nil, hbd⟩
  · injection hcs2 with hcs2 _
    subst hcs2
    subst hx
    simp only [if_true] at hz
    have hreach := hsz _ _ _ _ rfl
    rw [Tryd.bytes64] at hreach
    simp only [lits, List.length_map, List.length_take, List.length_drop, reachBytes] at hreach
    have hzl : (zs.take len').length = len' := by simp; omega
    refine ⟨b, _, _, _, zs.take len', e, rfl, ⟨hzl, hl, by omega, fun x hx => wf_lm (hwz x (List.mem_of_mem_take hx)), fun hn => ?_⟩, hbd⟩
    obtain ⟨b1, off, spot⟩ := a
    have hspot : spot = none := by simpa [Addr.add] using World.cell?_spot (hcell 0 (by omega))
    subst hspot
    have hbW : b1 < W.heap.size := hlt (.cell b1 off) (by simp only [List.mem_append]; exact .inl (.inr (MemPlace.mem_row.2 ⟨0, by omega, by simp⟩)))
    refine ⟨b1, off, rfl, hbW, fun k hk => ?_⟩
    have hk2 : k < zs.length := by omega
    rw [← add_plain, hcell k hk2, List.getElem_take]
    simp [List.getD, List.getElem?_eq_getElem hk2]
end
end Go.Proofs.YtcoidcbbdibnaaaDoor
namespace Go.Proofs.YtcoidcbbdibnaaaDoor
section
open Go.Joins Go.ChangeShapes Go.WideShapes Go.ChangeAt Go.RowKit
set_option linter.unusedVariables false
set_option maxRecDepth 100000

theorem Tryd.gTab : Tryd.prog.globalNamed "math/bits.deBruijn64tab" = some 0 := by kernel_rfl
theorem Tryd.tTab : (Tryd.prog.globals[0]?).map (·.type) = some 75 := by kernel_rfl
def laidT {H : Type} : List (String × DataW H) := [("math/bits.deBruijn64tab", Rows.laid_math_bits_deBruijn64tab)]
theorem door_met (os : Go.Os) (args : Array Value) : laidMetH Tryd.prog laidT ((World.doorLaid Tryd.prog 400 os).forCall (fun _ _ => 0) ⟨#[], args, []⟩).memory :=
  laidMetH_of_parts3 (fuel := 8) (laidMet_of_run' 8 (by kernel_rfl) (by kernel_rfl)) (by kernel_rfl) (by kernel_rfl)
theorem cells8 : Tryd.prog.cellsOf 5 = 1 := by kernel_rfl
theorem tab_of_laid {W : World} (h : laidMetH Tryd.prog laidT W) : Tab W := by
  rw [MakeChecks.laidMetH_plain _ _ _ (by kernel_rfl)] at h
  obtain ⟨ps, ⟨g0, t0, cs0, f0, p0, q0, hg0, ht0, hv0, hd0, _, _⟩, _, _⟩ := h
  obtain rfl := Option.some.inj (Tryd.gTab.symm.trans hg0)
  obtain rfl := Option.some.inj (Tryd.tTab.symm.trans ht0)
  obtain ⟨xs, m1, rfl, hx1, hlen, hn3, hel⟩ := DataW.trod_array Tryd.underlying75 hd0
  simp only [Prod.mk.injEq] at hx1
  have hL : (xs.map fun x => x.fst) = Lib.deBruijn64tab.map fun (n : Nat) => DataW.lit (.int .u8 (n : Int)) := by
    have h1 := hx1.1
    have h2 : (Rows.laid_math_bits_deBruijn64tab : DataW Unit) = DataW.agg (Lib.deBruijn64tab.map fun (n : Nat) => DataW.lit (.int .u8 (n : Int))) := by kernel_rfl
    rw [h2] at h1
    injection h1 with h1
    exact h1.symm
  have hlt : Lib.deBruijn64tab.length = 64 := by kernel_rfl
  refine ⟨fun j hj => ?_⟩
  have hj0 := hel j hj
  obtain ⟨x, hx⟩ : ∃ x, xs[j]? = some x := ⟨xs[j], List.getElem?_eq_getElem (by omega)⟩
  rw [hx] at hj0
  obtain ⟨k, e1, e2, _⟩ := DataW.trod_int Tryd.underlying5 hj0
  have h3 := congrArg (fun l => l[j]?) hL
  simp only [List.getElem?_map, hx, Option.map_some, e2] at h3
  rw [List.getElem?_eq_getElem (by omega)] at h3
  simp only [Option.map_some, Option.some.injEq, DataW.lit.injEq, Lit.int.injEq, true_and] at h3
  have h4 := World.var?_cell hg0 hv0 j
  rw [cells8, Nat.mul_one] at e1
  have h5 : cs0.toList[j]? = some (.int .u8 k) := by
    have := congrArg (fun l => l[0]?) e1
    simpa using this
  rw [Array.getElem?_toList] at h5
  rw [h5] at h4
  rw [h4, h3]
  simp [List.getD, hlt, hj]
end
end Go.Proofs.YtcoidcbbdibnaaaDoor
namespace Go.Proofs.YtcoidcbbdibnaaaDoor
section
open Go.RowKit
set_option linter.unusedVariables false

/-- A new box, in a world that is otherwise as it was. -/
def DxNew (v : World) (X e : Int) (k : Nat) (s : Value) (wx : World) : Prop :=
  ∃ g A n c, s = .pointer (some ⟨g, 0, none⟩) ∧ Dx wx g (ngB X) A n c e ∧ Zn wx A n c X k ∧ v.heap.size ≤ g ∧ Below v.heap.size v wx
theorem DxNew.put {v wx : World} {X e : Int} {k g n c n0 c0 : Nat} {b0 : Bool} {A A0 : Option Addr} {e0 : Int} (hv : Below v.heap.size v wx) (x : Dx wx g b0 A0 n0 c0 e0) (hg : v.heap.size ≤ g) (z : Zn wx A n c X k) :
    DxNew v X e k (.pointer (some ⟨g, 0, none⟩)) (((wx.setCell ⟨g, 0, none⟩ (.bool (ngB X))).setCell ⟨g, 1, none⟩ (.slice A n c)).setCell ⟨g, 2, none⟩ (.int .i64 e)) :=
  ⟨g, A, n, c, rfl, x.put _ _ _ _ _, z.putD x, hg, put_belowD hv hg _ _ _⟩
theorem DxNew.new {v wx : World} {X e : Int} {k n c : Nat} {A : Option Addr} (hv : Below v.heap.size v wx) (z : Zn wx A n c X k) :
    DxNew v X e k (.pointer (some ⟨wx.heap.size, 0, none⟩)) (wx.alloc (.cells #[.bool (ngB X), .slice A n c, .int .i64 e] 26)) :=
  ⟨wx.heap.size, A, n, c, rfl, Dx.new _ _ _ _ _ _, z.keep (below_alloc _ _), hv.size, bthen hv (below_alloc _ _)⟩
end
end Go.Proofs.YtcoidcbbdibnaaaDoor
namespace Go.Proofs.YtcoidcbbdibnaaaDoor
section
open Go.RowKit
set_option linter.unusedVariables false

set_option maxRecDepth 100000 in
set_option maxHeartbeats 1000000 in
theorem Dequal_any {A A2 : Option Addr} {n c n2 c2 k k2 : Nat} {X Y e f : Int} {w : World} (h : Zn w A n c X k) (h2 : Zn w A2 n2 c2 Y k2) (hXY : X = Y) (hef : e = f) :
    Calls Tryd.prog 12 #[.agg #[.bool (ngB X), .slice A n c, .int .i64 e], .agg #[.bool (ngB Y), .slice A2 n2 c2, .int .i64 f]] w fun en w' => en = .returned (.bool true) ∧ Below w.heap.size w w' := by
  subst hXY hef
  go_enter Tryd.func12, Tryd.ntmps12
  go_wp2_with fail
  have x_a : Dx (w.alloc (.cells #[.bool (ngB X), .slice A n c, .int .i64 e] 26)) (w.heap.size) (ngB X) A n c e := by have := Dx.new w (ngB X) A n c e; simpa using this
  replace x_a := x_a.alloc (.cells #[.bool (ngB X), .slice A2 n2 c2, .int .i64 e] 26)
  have x_b : Dx ((w.alloc (.cells #[.bool (ngB X), .slice A n c, .int .i64 e] 26)).alloc (.cells #[.bool (ngB X), .slice A2 n2 c2, .int .i64 e] 26)) (w.heap.size + 1) (ngB X) A2 n2 c2 e := by have := Dx.new (w.alloc (.cells #[.bool (ngB X), .slice A n c, .int .i64 e] 26)) (ngB X) A2 n2 c2 e; simpa using this
  have hb : Below w.heap.size w ((w.alloc (.cells #[.bool (ngB X), .slice A n c, .int .i64 e] 26)).alloc (.cells #[.bool (ngB X), .slice A2 n2 c2, .int .i64 e] 26)) := (Below.alloc (Below.alloc (Below.refl w.heap.size w) (by simp) (.cells #[.bool (ngB X), .slice A n c, .int .i64 e] 26)) (by simp) (.cells #[.bool (ngB X), .slice A2 n2 c2, .int .i64 e] 26))
  generalize (w.alloc (.cells #[.bool (ngB X), .slice A n c, .int .i64 e] 26)).alloc (.cells #[.bool (ngB X), .slice A2 n2 c2, .int .i64 e] 26) = v1 at *
  replace h := h.keep hb
  replace h2 := h2.keep hb
  have q_a0 := x_a.c0; have q_a1 := x_a.c1; have f_a0 := x_a.fr 0; have f_a1 := x_a.fr 1; have q_a2 := x_a.c2; have f_a2 := x_a.fr 2
  have q_b0 := x_b.c0; have q_b1 := x_b.c1; have f_b0 := x_b.fr 0; have f_b1 := x_b.fr 1; have q_b2 := x_b.c2; have f_b2 := x_b.fr 2
  go_wp2_with fail
  with_reducible refine (REqual_any h h2).mono ?_
  rintro e v2 ⟨rfl, hb1⟩
  replace x_a := x_a.keep hb1
  replace x_b := x_b.keep hb1
  replace h := h.keep hb1
  replace h2 := h2.keep hb1
  replace hb := bthen hb hb1
  clear hb1
  replace q_a0 := x_a.c0; replace q_a1 := x_a.c1; replace f_a0 := x_a.fr 0; replace f_a1 := x_a.fr 1; replace q_a2 := x_a.c2; replace f_a2 := x_a.fr 2
  replace q_b0 := x_b.c0; replace q_b1 := x_b.c1; replace f_b0 := x_b.fr 0; replace f_b1 := x_b.fr 1; replace q_b2 := x_b.c2; replace f_b2 := x_b.fr 2
  go_wp2
  go_ret
  exact ⟨by simp, hb⟩
end
end Go.Proofs.YtcoidcbbdibnaaaDoor
namespace Go.Proofs.YtcoidcbbdibnaaaDoor
section
open Go.RowKit
set_option linter.unusedVariables false

theorem small_bt {X : Int} {j : Nat} (h : Si X j) (hj : j ≤ 4) : Bt X 256 := (Bt.of_si h).mono (by omega)
/-- Two products, beside a product of a sum: the same normal form. -/
theorem ring_one {X Y Z e f g : Int} (he : -600 < e ∧ e < 600) (hf : -600 < f ∧ f < 600) (hg : -600 < g ∧ g < 600) (hX : Bt X 256) (hY : Bt Y 256) (hZ : Bt Z 256) :
    In (nE (alP X e f + alQ Y e f) (alE e f)) ∧ In (nE (X * Z) (e + g)) ∧ In (nE (Y * Z) (f + g)) ∧
    od (od (alP X e f + alQ Y e f) * Z) = od (alP (od (X * Z)) (nE (X * Z) (e + g)) (nE (Y * Z) (f + g)) + alQ (od (Y * Z)) (nE (X * Z) (e + g)) (nE (Y * Z) (f + g))) ∧
    nE (od (alP X e f + alQ Y e f) * Z) (nE (alP X e f + alQ Y e f) (alE e f) + g) = nE (alP (od (X * Z)) (nE (X * Z) (e + g)) (nE (Y * Z) (f + g)) + alQ (od (Y * Z)) (nE (X * Z) (e + g)) (nE (Y * Z) (f + g))) (alE (nE (X * Z) (e + g)) (nE (Y * Z) (f + g))) := by
  have ie : In e := ⟨by omega, by omega⟩
  have if_ : In f := ⟨by omega, by omega⟩
  have ig : In g := ⟨by omega, by omega⟩
  have hm := al_in ie if_
  have hbS : Bt (alP X e f + alQ Y e f) 1500 := ((alP_bt (s := 1200) hX ie if_ (by omega)).add (alQ_bt (s := 1200) hY ie if_ (by omega))).mono (by omega)
  have hS := nE_le (e := alE e f) hbS (lo := -600) (hi := 2200) (by omega) (by omega) (by omega) (by omega)
  have hp := nE_le (e := e + g) (hX.mul hZ) (lo := -1200) (hi := 2000) (by omega) (by omega) (by omega) (by omega)
  have hq := nE_le (e := f + g) (hY.mul hZ) (lo := -1200) (hi := 2000) (by omega) (by omega) (by omega) (by omega)
  have iS : In (nE (alP X e f + alQ Y e f) (alE e f)) := ⟨by omega, by omega⟩
  have ip : In (nE (X * Z) (e + g)) := ⟨by omega, by omega⟩
  have iq : In (nE (Y * Z) (f + g)) := ⟨by omega, by omega⟩
  have hpq := al_in ip iq
  refine ⟨iS, ip, iq, ?_⟩
  refine vd_same (by omega) (by omega) ?_
  have hk : (2 : Int) ^ 4000 ≠ 0 := by have := two_pow_pos 4000; omega
  refine Int.eq_of_mul_eq_mul_right hk ?_
  rw [← vd_mul (by omega) (by omega) (by omega), vd_nf (by omega), add_vd ie if_, add_vd ip iq, vd_nf (by omega), vd_nf (by omega), Int.add_mul, Int.add_mul, vd_mul (by omega) (by omega) (by omega), vd_mul (by omega) (by omega) (by omega)]
theorem ring_two {X Y e f : Int} (he : -600 < e ∧ e < 600) (hf : -600 < f ∧ f < 600) (hX : Bt X 256) (hY : Bt Y 256) :
    In (nE (alP X e f - alQ Y e f) (alE e f)) ∧
    od (alP (od (alP X e f - alQ Y e f)) (nE (alP X e f - alQ Y e f) (alE e f)) f + alQ Y (nE (alP X e f - alQ Y e f) (alE e f)) f) = od X ∧
    nE (alP (od (alP X e f - alQ Y e f)) (nE (alP X e f - alQ Y e f) (alE e f)) f + alQ Y (nE (alP X e f - alQ Y e f) (alE e f)) f) (alE (nE (alP X e f - alQ Y e f) (alE e f)) f) = nE X e := by
  have ie : In e := ⟨by omega, by omega⟩
  have if_ : In f := ⟨by omega, by omega⟩
  have hm := al_in ie if_
  have hbS : Bt (alP X e f - alQ Y e f) 1500 := ((alP_bt (s := 1200) hX ie if_ (by omega)).sub (alQ_bt (s := 1200) hY ie if_ (by omega))).mono (by omega)
  have hS := nE_le (e := alE e f) hbS (lo := -600) (hi := 2200) (by omega) (by omega) (by omega) (by omega)
  have iS : In (nE (alP X e f - alQ Y e f) (alE e f)) := ⟨by omega, by omega⟩
  have hpq := al_in iS if_
  refine ⟨iS, vd_same (by omega) (by omega) ?_⟩
  rw [add_vd iS if_, vd_nf (by omega), sub_vd ie if_]
  omega
theorem ring_three {X Y e f : Int} (he : -600 < e ∧ e < 600) (hf : -600 < f ∧ f < 600) :
    od (alP (X * 8) (e - 3) f + alQ Y (e - 3) f) = od (alP X e f + alQ Y e f) ∧ nE (alP (X * 8) (e - 3) f + alQ Y (e - 3) f) (alE (e - 3) f) = nE (alP X e f + alQ Y e f) (alE e f) ∧
    sgnI (alP (X * 8) (e - 3) e - alQ X (e - 3) e) = 0 := by
  rw [show X * 8 = X * 2 ^ 3 by rw [show (2 : Int) ^ 3 = 8 from rfl]]
  have ie : In e := ⟨by omega, by omega⟩
  have ie3 : In (e - 3) := ⟨by omega, by omega⟩
  have if_ : In f := ⟨by omega, by omega⟩
  have hm := al_in ie if_
  have hm3 := al_in ie3 if_
  have hv := vd_shl X e 3 (by omega)
  have h1 := vd_same (X := alP (X * 2 ^ 3) (e - 3) f + alQ Y (e - 3) f) (Y := alP X e f + alQ Y e f) (e := alE (e - 3) f) (f := alE e f) (by omega) (by omega) (by rw [add_vd ie3 if_, add_vd ie if_]; rw [show (e - 3 : Int) = e - (3 : Nat) by rfl, hv])
  refine ⟨h1.1, h1.2, ?_⟩
  rw [cmp_vd ie3 ie, show (e - 3 : Int) = e - (3 : Nat) by rfl, hv, Int.sub_self]
  rfl

set_option maxRecDepth 100000 in
set_option maxHeartbeats 16000000 in
theorem DyadRing_any {b b2 b3 : Bool} {A A2 A3 : Option Addr} {n c n2 c2 n3 c3 : Nat} {l l2 l3 : List Int} {e f g : Int} {w : World} (hT : Tab w) (h : Rd w w.heap.size A n c l) (h2 : Rd w w.heap.size A2 n2 c2 l2) (h3 : Rd w w.heap.size A3 n3 c3 l3) :
    Calls Tryd.prog 6 #[.agg #[.bool b, .slice A n c, .int .i64 e], .agg #[.bool b2, .slice A2 n2 c2, .int .i64 f], .agg #[.bool b3, .slice A3 n3 c3, .int .i64 g]] w fun e w' => e = .returned (.bool true) ∧ Below w.heap.size w w' := by
  go_enter Tryd.func6, Tryd.ntmps6
  go_wp2_with fail
  have x_a : Dx (w.alloc (.cells #[.bool b, .slice A n c, .int .i64 e] 26)) (w.heap.size) b A n c e := by have := Dx.new w b A n c e; simpa using this
  replace x_a := x_a.alloc (.cells #[.bool b2, .slice A2 n2 c2, .int .i64 f] 26)
  have x_b : Dx ((w.alloc (.cells #[.bool b, .slice A n c, .int .i64 e] 26)).alloc (.cells #[.bool b2, .slice A2 n2 c2, .int .i64 f] 26)) (w.heap.size + 1) b2 A2 n2 c2 f := by have := Dx.new (w.alloc (.cells #[.bool b, .slice A n c, .int .i64 e] 26)) b2 A2 n2 c2 f; simpa using this
  replace x_a := x_a.alloc (.cells #[.bool b3, .slice A3 n3 c3, .int .i64 g] 26)
  replace x_b := x_b.alloc (.cells #[.bool b3, .slice A3 n3 c3, .int .i64 g] 26)
  have x_c : Dx (((w.alloc (.cells #[.bool b, .slice A n c, .int .i64 e] 26)).alloc (.cells #[.bool b2, .slice A2 n2 c2, .int .i64 f] 26)).alloc (.cells #[.bool b3, .slice A3 n3 c3, .int .i64 g] 26)) (w.heap.size + 1 + 1) b3 A3 n3 c3 g := by have := Dx.new ((w.alloc (.cells #[.bool b, .slice A n c, .int .i64 e] 26)).alloc (.cells #[.bool b2, .slice A2 n2 c2, .int .i64 f] 26)) b3 A3 n3 c3 g; simpa using this
  have hb : Below w.heap.size w (((w.alloc (.cells #[.bool b, .slice A n c, .int .i64 e] 26)).alloc (.cells #[.bool b2, .slice A2 n2 c2, .int .i64 f] 26)).alloc (.cells #[.bool b3, .slice A3 n3 c3, .int .i64 g] 26)) := (Below.alloc (Below.alloc (Below.alloc (Below.refl w.heap.size w) (by simp) (.cells #[.bool b, .slice A n c, .int .i64 e] 26)) (by simp) (.cells #[.bool b2, .slice A2 n2 c2, .int .i64 f] 26)) (by simp; omega) (.cells #[.bool b3, .slice A3 n3 c3, .int .i64 g] 26))
  generalize ((w.alloc (.cells #[.bool b, .slice A n c, .int .i64 e] 26)).alloc (.cells #[.bool b2, .slice A2 n2 c2, .int .i64 f] 26)).alloc (.cells #[.bool b3, .slice A3 n3 c3, .int .i64 g] 26) = v1 at *
  replace h := h.go hb
  replace h2 := h2.go hb
  replace h3 := h3.go hb
  replace hT := hT.keep hb
  have q_a0 := x_a.c0; have q_a1 := x_a.c1; have f_a0 := x_a.fr 0; have f_a1 := x_a.fr 1; have q_a2 := x_a.c2; have f_a2 := x_a.fr 2
  have q_b0 := x_b.c0; have q_b1 := x_b.c1; have f_b0 := x_b.fr 0; have f_b1 := x_b.fr 1; have q_b2 := x_b.c2; have f_b2 := x_b.fr 2
  have q_c0 := x_c.c0; have q_c1 := x_c.c1; have f_c0 := x_c.fr 0; have f_c1 := x_c.fr 1; have q_c2 := x_c.c2; have f_c2 := x_c.fr 2
  go_wp2_with fail
  with_reducible refine (Dshown_any hT).mono ?_
  rintro e v2 ⟨rfl, hb1⟩
  replace x_a := x_a.keep hb1
  replace x_b := x_b.keep hb1
  replace x_c := x_c.keep hb1
  replace h := h.go hb1
  replace h2 := h2.go hb1
  replace h3 := h3.go hb1
  replace hT := hT.keep hb1
  replace hb := bthen hb hb1
  clear hb1
  replace q_a0 := x_a.c0; replace q_a1 := x_a.c1; replace f_a0 := x_a.fr 0; replace f_a1 := x_a.fr 1; replace q_a2 := x_a.c2; replace f_a2 := x_a.fr 2
  replace q_b0 := x_b.c0; replace q_b1 := x_b.c1; replace f_b0 := x_b.fr 0; replace f_b1 := x_b.fr 1; replace q_b2 := x_b.c2; replace f_b2 := x_b.fr 2
  replace q_c0 := x_c.c0; replace q_c1 := x_c.c1; replace f_c0 := x_c.fr 0; replace f_c1 := x_c.fr 1; replace q_c2 := x_c.c2; replace f_c2 := x_c.fr 2
  go_wp2_with fail
  with_reducible refine (Dsmall_any h).mono ?_
  rintro e v3 ⟨Aa_, na_, ca_, A, rfl, za, hb1⟩
  replace x_a := x_a.keep hb1
  replace x_b := x_b.keep hb1
  replace x_c := x_c.keep hb1
  replace h := h.go hb1
  replace h2 := h2.go hb1
  replace h3 := h3.go hb1
  replace hT := hT.keep hb1
  replace hb := bthen hb hb1
  clear hb1
  replace q_a0 := x_a.c0; replace q_a1 := x_a.c1; replace f_a0 := x_a.fr 0; replace f_a1 := x_a.fr 1; replace q_a2 := x_a.c2; replace f_a2 := x_a.fr 2
  replace q_b0 := x_b.c0; replace q_b1 := x_b.c1; replace f_b0 := x_b.fr 0; replace f_b1 := x_b.fr 1; replace q_b2 := x_b.c2; replace f_b2 := x_b.fr 2
  replace q_c0 := x_c.c0; replace q_c1 := x_c.c1; replace f_c0 := x_c.fr 0; replace f_c1 := x_c.fr 1; replace q_c2 := x_c.c2; replace f_c2 := x_c.fr 2
  clear h
  go_wp2_with fail
  replace x_b := x_b.asideD (b' := b) (A' := Aa_) (n' := na_) (c' := ca_) (e' := (e.tmod 600)) (g := w.heap.size) (by omega)
  replace x_c := x_c.asideD (b' := b) (A' := Aa_) (n' := na_) (c' := ca_) (e' := (e.tmod 600)) (g := w.heap.size) (by omega)
  replace h2 := h2.sputD (b' := b) (A' := Aa_) (n' := na_) (c' := ca_) (e' := (e.tmod 600)) x_a
  replace h3 := h3.sputD (b' := b) (A' := Aa_) (n' := na_) (c' := ca_) (e' := (e.tmod 600)) x_a
  replace hT := hT.putD (b' := b) (A' := Aa_) (n' := na_) (c' := ca_) (e' := (e.tmod 600)) x_a
  replace za := za.putD (b' := b) (A' := Aa_) (n' := na_) (c' := ca_) (e' := (e.tmod 600)) x_a
  replace hb := put_belowD (g := w.heap.size) hb (by omega) (.bool b) (.slice Aa_ na_ ca_) (.int .i64 (e.tmod 600))
  replace x_a := x_a.put b Aa_ na_ ca_ (e.tmod 600)
  clear q_a0 q_a1 f_a0 f_a1 q_a2 f_a2 q_b0 q_b1 f_b0 f_b1 q_b2 f_b2 q_c0 q_c1 f_c0 f_c1 q_c2 f_c2
  generalize ((v3.setCell ⟨w.heap.size, 0, none⟩ (.bool b)).setCell ⟨w.heap.size, 1, none⟩ (.slice Aa_ na_ ca_)).setCell ⟨w.heap.size, 2, none⟩ (.int .i64 (e.tmod 600)) = v4 at *
  have q_a0 := x_a.c0; have q_a1 := x_a.c1; have f_a0 := x_a.fr 0; have f_a1 := x_a.fr 1; have q_a2 := x_a.c2; have f_a2 := x_a.fr 2
  have q_b0 := x_b.c0; have q_b1 := x_b.c1; have f_b0 := x_b.fr 0; have f_b1 := x_b.fr 1; have q_b2 := x_b.c2; have f_b2 := x_b.fr 2
  have q_c0 := x_c.c0; have q_c1 := x_c.c1; have f_c0 := x_c.fr 0; have f_c1 := x_c.fr 1; have q_c2 := x_c.c2; have f_c2 := x_c.fr 2
  with_reducible refine (Dsmall_any h2).mono ?_
  rintro e v5 ⟨Ab_, nb_, cb_, B, rfl, zb, hb1⟩
  replace x_a := x_a.keep hb1
  replace x_b := x_b.keep hb1
  replace x_c := x_c.keep hb1
  replace h2 := h2.go hb1
  replace h3 := h3.go hb1
  replace hT := hT.keep hb1
  replace za := za.keep hb1
  replace hb := bthen hb hb1
  clear hb1
  replace q_a0 := x_a.c0; replace q_a1 := x_a.c1; replace f_a0 := x_a.fr 0; replace f_a1 := x_a.fr 1; replace q_a2 := x_a.c2; replace f_a2 := x_a.fr 2
  replace q_b0 := x_b.c0; replace q_b1 := x_b.c1; replace f_b0 := x_b.fr 0; replace f_b1 := x_b.fr 1; replace q_b2 := x_b.c2; replace f_b2 := x_b.fr 2
  replace q_c0 := x_c.c0; replace q_c1 := x_c.c1; replace f_c0 := x_c.fr 0; replace f_c1 := x_c.fr 1; replace q_c2 := x_c.c2; replace f_c2 := x_c.fr 2
  clear h2
  go_wp2_with fail
  replace x_a := x_a.asideD (b' := b2) (A' := Ab_) (n' := nb_) (c' := cb_) (e' := (f.tmod 600)) (g := w.heap.size + 1) (by omega)
  replace x_c := x_c.asideD (b' := b2) (A' := Ab_) (n' := nb_) (c' := cb_) (e' := (f.tmod 600)) (g := w.heap.size + 1) (by omega)
  replace h3 := h3.sputD (b' := b2) (A' := Ab_) (n' := nb_) (c' := cb_) (e' := (f.tmod 600)) x_b
  replace hT := hT.putD (b' := b2) (A' := Ab_) (n' := nb_) (c' := cb_) (e' := (f.tmod 600)) x_b
  replace za := za.putD (b' := b2) (A' := Ab_) (n' := nb_) (c' := cb_) (e' := (f.tmod 600)) x_b
  replace zb := zb.putD (b' := b2) (A' := Ab_) (n' := nb_) (c' := cb_) (e' := (f.tmod 600)) x_b
  replace hb := put_belowD (g := w.heap.size + 1) hb (by omega) (.bool b2) (.slice Ab_ nb_ cb_) (.int .i64 (f.tmod 600))
  replace x_b := x_b.put b2 Ab_ nb_ cb_ (f.tmod 600)
  clear q_a0 q_a1 f_a0 f_a1 q_a2 f_a2 q_b0 q_b1 f_b0 f_b1 q_b2 f_b2 q_c0 q_c1 f_c0 f_c1 q_c2 f_c2
  generalize ((v5.setCell ⟨w.heap.size + 1, 0, none⟩ (.bool b2)).setCell ⟨w.heap.size + 1, 1, none⟩ (.slice Ab_ nb_ cb_)).setCell ⟨w.heap.size + 1, 2, none⟩ (.int .i64 (f.tmod 600)) = v6 at *
  have q_a0 := x_a.c0; have q_a1 := x_a.c1; have f_a0 := x_a.fr 0; have f_a1 := x_a.fr 1; have q_a2 := x_a.c2; have f_a2 := x_a.fr 2
  have q_b0 := x_b.c0; have q_b1 := x_b.c1; have f_b0 := x_b.fr 0; have f_b1 := x_b.fr 1; have q_b2 := x_b.c2; have f_b2 := x_b.fr 2
  have q_c0 := x_c.c0; have q_c1 := x_c.c1; have f_c0 := x_c.fr 0; have f_c1 := x_c.fr 1; have q_c2 := x_c.c2; have f_c2 := x_c.fr 2
  with_reducible refine (Dsmall_any h3).mono ?_
  rintro e v7 ⟨Ac_, nc_, cc_, C, rfl, zc, hb1⟩
  replace x_a := x_a.keep hb1
  replace x_b := x_b.keep hb1
  replace x_c := x_c.keep hb1
  replace h3 := h3.go hb1
  replace hT := hT.keep hb1
  replace za := za.keep hb1
  replace zb := zb.keep hb1
  replace hb := bthen hb hb1
  clear hb1
  replace q_a0 := x_a.c0; replace q_a1 := x_a.c1; replace f_a0 := x_a.fr 0; replace f_a1 := x_a.fr 1; replace q_a2 := x_a.c2; replace f_a2 := x_a.fr 2
  replace q_b0 := x_b.c0; replace q_b1 := x_b.c1; replace f_b0 := x_b.fr 0; replace f_b1 := x_b.fr 1; replace q_b2 := x_b.c2; replace f_b2 := x_b.fr 2
  replace q_c0 := x_c.c0; replace q_c1 := x_c.c1; replace f_c0 := x_c.fr 0; replace f_c1 := x_c.fr 1; replace q_c2 := x_c.c2; replace f_c2 := x_c.fr 2
  clear h3
  go_wp2_with fail
  replace x_a := x_a.asideD (b' := b3) (A' := Ac_) (n' := nc_) (c' := cc_) (e' := (g.tmod 600)) (g := w.heap.size + 1 + 1) (by omega)
  replace x_b := x_b.asideD (b' := b3) (A' := Ac_) (n' := nc_) (c' := cc_) (e' := (g.tmod 600)) (g := w.heap.size + 1 + 1) (by omega)
  replace hT := hT.putD (b' := b3) (A' := Ac_) (n' := nc_) (c' := cc_) (e' := (g.tmod 600)) x_c
  replace za := za.putD (b' := b3) (A' := Ac_) (n' := nc_) (c' := cc_) (e' := (g.tmod 600)) x_c
  replace zb := zb.putD (b' := b3) (A' := Ac_) (n' := nc_) (c' := cc_) (e' := (g.tmod 600)) x_c
  replace zc := zc.putD (b' := b3) (A' := Ac_) (n' := nc_) (c' := cc_) (e' := (g.tmod 600)) x_c
  replace hb := put_belowD (g := w.heap.size + 1 + 1) hb (by omega) (.bool b3) (.slice Ac_ nc_ cc_) (.int .i64 (g.tmod 600))
  replace x_c := x_c.put b3 Ac_ nc_ cc_ (g.tmod 600)
  clear q_a0 q_a1 f_a0 f_a1 q_a2 f_a2 q_b0 q_b1 f_b0 f_b1 q_b2 f_b2 q_c0 q_c1 f_c0 f_c1 q_c2 f_c2
  generalize ((v7.setCell ⟨w.heap.size + 1 + 1, 0, none⟩ (.bool b3)).setCell ⟨w.heap.size + 1 + 1, 1, none⟩ (.slice Ac_ nc_ cc_)).setCell ⟨w.heap.size + 1 + 1, 2, none⟩ (.int .i64 (g.tmod 600)) = v8 at *
  have q_a0 := x_a.c0; have q_a1 := x_a.c1; have f_a0 := x_a.fr 0; have f_a1 := x_a.fr 1; have q_a2 := x_a.c2; have f_a2 := x_a.fr 2
  have q_b0 := x_b.c0; have q_b1 := x_b.c1; have f_b0 := x_b.fr 0; have f_b1 := x_b.fr 1; have q_b2 := x_b.c2; have f_b2 := x_b.fr 2
  have q_c0 := x_c.c0; have q_c1 := x_c.c1; have f_c0 := x_c.fr 0; have f_c1 := x_c.fr 1; have q_c2 := x_c.c2; have f_c2 := x_c.fr 2
  have tia := tmod_in e 600 (by omega)
  obtain ⟨Ea, hEa⟩ : ∃ E, e.tmod 600 = E := ⟨_, rfl⟩
  simp only [hEa] at *
  clear hEa
  have ina : In Ea := ⟨by omega, by omega⟩
  have hca := c_yes (X := A) ina
  have bta := small_bt za.si (by omega)
  have tib := tmod_in f 600 (by omega)
  obtain ⟨Eb, hEb⟩ : ∃ E, f.tmod 600 = E := ⟨_, rfl⟩
  simp only [hEb] at *
  clear hEb
  have inb : In Eb := ⟨by omega, by omega⟩
  have hcb := c_yes (X := B) inb
  have btb := small_bt zb.si (by omega)
  have tic := tmod_in g 600 (by omega)
  obtain ⟨Ec, hEc⟩ : ∃ E, g.tmod 600 = E := ⟨_, rfl⟩
  simp only [hEc] at *
  clear hEc
  have inc : In Ec := ⟨by omega, by omega⟩
  have hcc := c_yes (X := C) inc
  have btc := small_bt zc.si (by omega)
  obtain ⟨i1, i2, i3, k1, k2⟩ := ring_one tia tib tic bta btb btc
  obtain ⟨i4, k3, k4⟩ := ring_two tia tib bta btb
  obtain ⟨k5, k6, k7⟩ := ring_three (X := A) (Y := B) tia tib
  have d1 := c_yes (X := od (alP A Ea Eb + alQ B Ea Eb)) i1
  have d2 := c_yes (X := od (alP A Ea Eb - alQ B Ea Eb)) i4
  have d3 : sgnI (od (alP A Ea Eb - alQ B Ea Eb)) = sgnI (alP A Ea Eb - alQ B Ea Eb) := sgn_od _
  have m1 : od (cM (od (alP A Ea Eb + alQ B Ea Eb)) (nE (alP A Ea Eb + alQ B Ea Eb) (alE Ea Eb)) * cM C Ec) = od (alP (od (A * C)) (nE (A * C) (Ea + Ec)) (nE (B * C) (Eb + Ec)) + alQ (od (B * C)) (nE (A * C) (Ea + Ec)) (nE (B * C) (Eb + Ec))) := by rw [d1.1, hcc.1]; exact k1
  have m2 : nE (cM (od (alP A Ea Eb + alQ B Ea Eb)) (nE (alP A Ea Eb + alQ B Ea Eb) (alE Ea Eb)) * cM C Ec) (cE (nE (alP A Ea Eb + alQ B Ea Eb) (alE Ea Eb)) + cE Ec) = nE (alP (od (A * C)) (nE (A * C) (Ea + Ec)) (nE (B * C) (Eb + Ec)) + alQ (od (B * C)) (nE (A * C) (Ea + Ec)) (nE (B * C) (Eb + Ec))) (alE (nE (A * C) (Ea + Ec)) (nE (B * C) (Eb + Ec))) := by rw [d1.1, d1.2, hcc.1, hcc.2]; exact k2
  have m3 : cM A Ea * cM C Ec = (A * C) ∧ cE Ea + cE Ec = Ea + Ec := by rw [hca.1, hca.2, hcc.1, hcc.2]; exact ⟨rfl, rfl⟩
  have m4 : cM B Eb * cM C Ec = (B * C) ∧ cE Eb + cE Ec = Eb + Ec := by rw [hcb.1, hcb.2, hcc.1, hcc.2]; exact ⟨rfl, rfl⟩
  have m5 : od (cM A Ea) = od A ∧ nE (cM A Ea) (cE Ea) = nE A Ea := by rw [hca.1, hca.2]; exact ⟨rfl, rfl⟩
  have m6 : sgnI (cM (od (alP A Ea Eb - alQ B Ea Eb)) (nE (alP A Ea Eb - alQ B Ea Eb) (alE Ea Eb))) = sgnI (alP A Ea Eb - alQ B Ea Eb) := by rw [d2.1, d3]
  have Hm1 := Lib.hid m1
  have Hm2 := Lib.hid m2
  have Hm3 := Lib.hid m3
  have Hm4 := Lib.hid m4
  have Hm5 := Lib.hid m5
  have Hm6 := Lib.hid m6
  have Hk3 := Lib.hid k3
  have Hk4 := Lib.hid k4
  have Hk5 := Lib.hid k5
  have Hk6 := Lib.hid k6
  have Hk7 := Lib.hid k7
  have w3 : IntKind.i64.wrap (Ea - 3) = Ea - 3 := IntWalk.i64_in _ ⟨by omega, by omega⟩
  have hs3 : sc 3 = 3 := by decide
  clear m1 m2 m3 m4 m5 m6 k1 k2 k3 k4 k5 k6 k7 d1 d2 d3 hca hcb hcc i1 i2 i3 i4 bta btb btc ina inb inc
  go_region_held3 (fun w' => w'.cell? ⟨w.heap.size, 0, none⟩ = some (.bool b) ∧ w'.cell? ⟨w.heap.size, 1, none⟩ = some (.slice Aa_ na_ ca_) ∧ w'.cell? ⟨w.heap.size, 2, none⟩ = some (.int .i64 Ea) ∧ w'.cell? ⟨w.heap.size + 1, 0, none⟩ = some (.bool b2) ∧ w'.cell? ⟨w.heap.size + 1, 1, none⟩ = some (.slice Ab_ nb_ cb_) ∧ w'.cell? ⟨w.heap.size + 1, 2, none⟩ = some (.int .i64 Eb) ∧ w'.cell? ⟨w.heap.size + 1 + 1, 0, none⟩ = some (.bool b3) ∧ w'.cell? ⟨w.heap.size + 1 + 1, 1, none⟩ = some (.slice Ac_ nc_ cc_) ∧ w'.cell? ⟨w.heap.size + 1 + 1, 2, none⟩ = some (.int .i64 Ec))
    (first | (with_reducible exact ⟨x_a.c0, x_a.c1, x_a.c2, x_b.c0, x_b.c1, x_b.c2, x_c.c0, x_c.c1, x_c.c2⟩) | (with_reducible exact ⟨(x_a.aside (by omega)).c0, (x_a.aside (by omega)).c1, (x_a.aside (by omega)).c2, (x_b.aside (by omega)).c0, (x_b.aside (by omega)).c1, (x_b.aside (by omega)).c2, (x_c.aside (by omega)).c0, (x_c.aside (by omega)).c1, (x_c.aside (by omega)).c2⟩) | (with_reducible exact ⟨((x_a.aside (by omega)).aside (by omega)).c0, ((x_a.aside (by omega)).aside (by omega)).c1, ((x_a.aside (by omega)).aside (by omega)).c2, ((x_b.aside (by omega)).aside (by omega)).c0, ((x_b.aside (by omega)).aside (by omega)).c1, ((x_b.aside (by omega)).aside (by omega)).c2, ((x_c.aside (by omega)).aside (by omega)).c0, ((x_c.aside (by omega)).aside (by omega)).c1, ((x_c.aside (by omega)).aside (by omega)).c2⟩) | (with_reducible exact ⟨(x_a.asideD (by omega)).c0, (x_a.asideD (by omega)).c1, (x_a.asideD (by omega)).c2, (x_b.asideD (by omega)).c0, (x_b.asideD (by omega)).c1, (x_b.asideD (by omega)).c2, (x_c.asideD (by omega)).c0, (x_c.asideD (by omega)).c1, (x_c.asideD (by omega)).c2⟩) | (with_reducible exact ⟨((x_a.asideD (by omega)).asideD (by omega)).c0, ((x_a.asideD (by omega)).asideD (by omega)).c1, ((x_a.asideD (by omega)).asideD (by omega)).c2, ((x_b.asideD (by omega)).asideD (by omega)).c0, ((x_b.asideD (by omega)).asideD (by omega)).c1, ((x_b.asideD (by omega)).asideD (by omega)).c2, ((x_c.asideD (by omega)).asideD (by omega)).c0, ((x_c.asideD (by omega)).asideD (by omega)).c1, ((x_c.asideD (by omega)).asideD (by omega)).c2⟩) | go_keep)
    (first | (go_at_call 22; (with_reducible refine (DAdd_any za.drw zb.drw hT.drw 140 (by omega) (by omega) (by omega)).mono ?_); rintro e v9 ⟨A1, n1, c1, rfl, z1, hb1⟩; replace hb1 := undrew hb1; replace x_a := x_a.keep hb1; replace x_b := x_b.keep hb1; replace x_c := x_c.keep hb1; replace hT := hT.keep hb1; replace za := za.keep hb1; replace zb := zb.keep hb1; replace zc := zc.keep hb1; replace hb := bthen hb hb1; clear hb1; replace q_a0 := x_a.c0; replace q_a1 := x_a.c1; replace f_a0 := x_a.fr 0; replace f_a1 := x_a.fr 1; replace q_a2 := x_a.c2; replace f_a2 := x_a.fr 2; replace q_b0 := x_b.c0; replace q_b1 := x_b.c1; replace f_b0 := x_b.fr 0; replace f_b1 := x_b.fr 1; replace q_b2 := x_b.c2; replace f_b2 := x_b.fr 2; replace q_c0 := x_c.c0; replace q_c1 := x_c.c1; replace f_c0 := x_c.fr 0; replace f_c1 := x_c.fr 1; replace q_c2 := x_c.c2; replace f_c2 := x_c.fr 2) | (go_at_call 26; (with_reducible refine (DMul_any z1.zr zc hT 150 (by omega) (by omega)).mono ?_); rintro e v10 ⟨A2_, n2_, c2_, rfl, z2, hb1⟩; replace x_a := x_a.keep hb1; replace x_b := x_b.keep hb1; replace x_c := x_c.keep hb1; replace hT := hT.keep hb1; replace za := za.keep hb1; replace zb := zb.keep hb1; replace zc := zc.keep hb1; replace z1 := z1.keep hb1; replace hb := bthen hb hb1; clear hb1; replace q_a0 := x_a.c0; replace q_a1 := x_a.c1; replace f_a0 := x_a.fr 0; replace f_a1 := x_a.fr 1; replace q_a2 := x_a.c2; replace f_a2 := x_a.fr 2; replace q_b0 := x_b.c0; replace q_b1 := x_b.c1; replace f_b0 := x_b.fr 0; replace f_b1 := x_b.fr 1; replace q_b2 := x_b.c2; replace f_b2 := x_b.fr 2; replace q_c0 := x_c.c0; replace q_c1 := x_c.c1; replace f_c0 := x_c.fr 0; replace f_c1 := x_c.fr 1; replace q_c2 := x_c.c2; replace f_c2 := x_c.fr 2; rw [Hm1.out] at z2 ⊢; rw [Hm2.out]) | (go_at_call 26; (with_reducible refine (DMul_any za zc hT 10 (by omega) (by omega)).mono ?_); rintro e v11 ⟨A3_, n3_, c3_, rfl, z3, hb1⟩; replace x_a := x_a.keep hb1; replace x_b := x_b.keep hb1; replace x_c := x_c.keep hb1; replace hT := hT.keep hb1; replace za := za.keep hb1; replace zb := zb.keep hb1; replace zc := zc.keep hb1; replace z1 := z1.keep hb1; replace z2 := z2.keep hb1; replace hb := bthen hb hb1; clear hb1; replace q_a0 := x_a.c0; replace q_a1 := x_a.c1; replace f_a0 := x_a.fr 0; replace f_a1 := x_a.fr 1; replace q_a2 := x_a.c2; replace f_a2 := x_a.fr 2; replace q_b0 := x_b.c0; replace q_b1 := x_b.c1; replace f_b0 := x_b.fr 0; replace f_b1 := x_b.fr 1; replace q_b2 := x_b.c2; replace f_b2 := x_b.fr 2; replace q_c0 := x_c.c0; replace q_c1 := x_c.c1; replace f_c0 := x_c.fr 0; replace f_c1 := x_c.fr 1; replace q_c2 := x_c.c2; replace f_c2 := x_c.fr 2; rw [Hm3.out.1] at z3 ⊢; rw [Hm3.out.2]) | (go_at_call 26; (with_reducible refine (DMul_any zb zc hT 10 (by omega) (by omega)).mono ?_); rintro e v12 ⟨A4, n4, c4, rfl, z4, hb1⟩; replace x_a := x_a.keep hb1; replace x_b := x_b.keep hb1; replace x_c := x_c.keep hb1; replace hT := hT.keep hb1; replace za := za.keep hb1; replace zb := zb.keep hb1; replace zc := zc.keep hb1; replace z1 := z1.keep hb1; replace z2 := z2.keep hb1; replace z3 := z3.keep hb1; replace hb := bthen hb hb1; clear hb1; replace q_a0 := x_a.c0; replace q_a1 := x_a.c1; replace f_a0 := x_a.fr 0; replace f_a1 := x_a.fr 1; replace q_a2 := x_a.c2; replace f_a2 := x_a.fr 2; replace q_b0 := x_b.c0; replace q_b1 := x_b.c1; replace f_b0 := x_b.fr 0; replace f_b1 := x_b.fr 1; replace q_b2 := x_b.c2; replace f_b2 := x_b.fr 2; replace q_c0 := x_c.c0; replace q_c1 := x_c.c1; replace f_c0 := x_c.fr 0; replace f_c1 := x_c.fr 1; replace q_c2 := x_c.c2; replace f_c2 := x_c.fr 2; rw [Hm4.out.1] at z4 ⊢; rw [Hm4.out.2]) | (go_at_call 22; (with_reducible refine (DAdd_any z3.zr z4.zr hT 150 (by omega) (by omega) (by omega)).mono ?_); rintro e v13 ⟨A5, n5, c5, rfl, z5, hb1⟩; replace x_a := x_a.keep hb1; replace x_b := x_b.keep hb1; replace x_c := x_c.keep hb1; replace hT := hT.keep hb1; replace za := za.keep hb1; replace zb := zb.keep hb1; replace zc := zc.keep hb1; replace z1 := z1.keep hb1; replace z2 := z2.keep hb1; replace z3 := z3.keep hb1; replace z4 := z4.keep hb1; replace hb := bthen hb hb1; clear hb1; replace q_a0 := x_a.c0; replace q_a1 := x_a.c1; replace f_a0 := x_a.fr 0; replace f_a1 := x_a.fr 1; replace q_a2 := x_a.c2; replace f_a2 := x_a.fr 2; replace q_b0 := x_b.c0; replace q_b1 := x_b.c1; replace f_b0 := x_b.fr 0; replace f_b1 := x_b.fr 1; replace q_b2 := x_b.c2; replace f_b2 := x_b.fr 2; replace q_c0 := x_c.c0; replace q_c1 := x_c.c1; replace f_c0 := x_c.fr 0; replace f_c1 := x_c.fr 1; replace q_c2 := x_c.c2; replace f_c2 := x_c.fr 2) | (go_at_call 12; (with_reducible refine (Dequal_any z2 z5 rfl rfl).mono ?_); rintro e v14 ⟨rfl, hb1⟩; replace x_a := x_a.keep hb1; replace x_b := x_b.keep hb1; replace x_c := x_c.keep hb1; replace hT := hT.keep hb1; replace za := za.keep hb1; replace zb := zb.keep hb1; replace zc := zc.keep hb1; replace z1 := z1.keep hb1; replace z2 := z2.keep hb1; replace z3 := z3.keep hb1; replace z4 := z4.keep hb1; replace z5 := z5.keep hb1; replace hb := bthen hb hb1; clear hb1; replace q_a0 := x_a.c0; replace q_a1 := x_a.c1; replace f_a0 := x_a.fr 0; replace f_a1 := x_a.fr 1; replace q_a2 := x_a.c2; replace f_a2 := x_a.fr 2; replace q_b0 := x_b.c0; replace q_b1 := x_b.c1; replace f_b0 := x_b.fr 0; replace f_b1 := x_b.fr 1; replace q_b2 := x_b.c2; replace f_b2 := x_b.fr 2; replace q_c0 := x_c.c0; replace q_c1 := x_c.c1; replace f_c0 := x_c.fr 0; replace f_c1 := x_c.fr 1; replace q_c2 := x_c.c2; replace f_c2 := x_c.fr 2))
  go_wp2_with fail
  clear z1 z2 z3 z4 z5
  go_region_held3 (fun w' => w'.cell? ⟨w.heap.size, 0, none⟩ = some (.bool b) ∧ w'.cell? ⟨w.heap.size, 1, none⟩ = some (.slice Aa_ na_ ca_) ∧ w'.cell? ⟨w.heap.size, 2, none⟩ = some (.int .i64 Ea) ∧ w'.cell? ⟨w.heap.size + 1, 0, none⟩ = some (.bool b2) ∧ w'.cell? ⟨w.heap.size + 1, 1, none⟩ = some (.slice Ab_ nb_ cb_) ∧ w'.cell? ⟨w.heap.size + 1, 2, none⟩ = some (.int .i64 Eb))
    (first | (with_reducible exact ⟨x_a.c0, x_a.c1, x_a.c2, x_b.c0, x_b.c1, x_b.c2⟩) | (with_reducible exact ⟨(x_a.aside (by omega)).c0, (x_a.aside (by omega)).c1, (x_a.aside (by omega)).c2, (x_b.aside (by omega)).c0, (x_b.aside (by omega)).c1, (x_b.aside (by omega)).c2⟩) | (with_reducible exact ⟨((x_a.aside (by omega)).aside (by omega)).c0, ((x_a.aside (by omega)).aside (by omega)).c1, ((x_a.aside (by omega)).aside (by omega)).c2, ((x_b.aside (by omega)).aside (by omega)).c0, ((x_b.aside (by omega)).aside (by omega)).c1, ((x_b.aside (by omega)).aside (by omega)).c2⟩) | (with_reducible exact ⟨(x_a.asideD (by omega)).c0, (x_a.asideD (by omega)).c1, (x_a.asideD (by omega)).c2, (x_b.asideD (by omega)).c0, (x_b.asideD (by omega)).c1, (x_b.asideD (by omega)).c2⟩) | (with_reducible exact ⟨((x_a.asideD (by omega)).asideD (by omega)).c0, ((x_a.asideD (by omega)).asideD (by omega)).c1, ((x_a.asideD (by omega)).asideD (by omega)).c2, ((x_b.asideD (by omega)).asideD (by omega)).c0, ((x_b.asideD (by omega)).asideD (by omega)).c1, ((x_b.asideD (by omega)).asideD (by omega)).c2⟩) | go_keep)
    (first | (go_at_call 24; (with_reducible refine (DSub_any za.drw zb.drw hT.drw 140 (by omega) (by omega) (by omega)).mono ?_); rintro e v15 ⟨A1, n1, c1, rfl, z1, hb1⟩; replace hb1 := undrew hb1; replace x_a := x_a.keep hb1; replace x_b := x_b.keep hb1; replace x_c := x_c.keep hb1; replace hT := hT.keep hb1; replace za := za.keep hb1; replace zb := zb.keep hb1; replace zc := zc.keep hb1; replace hb := bthen hb hb1; clear hb1; replace q_a0 := x_a.c0; replace q_a1 := x_a.c1; replace f_a0 := x_a.fr 0; replace f_a1 := x_a.fr 1; replace q_a2 := x_a.c2; replace f_a2 := x_a.fr 2; replace q_b0 := x_b.c0; replace q_b1 := x_b.c1; replace f_b0 := x_b.fr 0; replace f_b1 := x_b.fr 1; replace q_b2 := x_b.c2; replace f_b2 := x_b.fr 2; replace q_c0 := x_c.c0; replace q_c1 := x_c.c1; replace f_c0 := x_c.fr 0; replace f_c1 := x_c.fr 1; replace q_c2 := x_c.c2; replace f_c2 := x_c.fr 2) | (go_at_call 22; (with_reducible refine (DAdd_any z1.zr zb hT 300 (by omega) (by omega) (by omega)).mono ?_); rintro e v16 ⟨A2_, n2_, c2_, rfl, z2, hb1⟩; replace x_a := x_a.keep hb1; replace x_b := x_b.keep hb1; replace x_c := x_c.keep hb1; replace hT := hT.keep hb1; replace za := za.keep hb1; replace zb := zb.keep hb1; replace zc := zc.keep hb1; replace z1 := z1.keep hb1; replace hb := bthen hb hb1; clear hb1; replace q_a0 := x_a.c0; replace q_a1 := x_a.c1; replace f_a0 := x_a.fr 0; replace f_a1 := x_a.fr 1; replace q_a2 := x_a.c2; replace f_a2 := x_a.fr 2; replace q_b0 := x_b.c0; replace q_b1 := x_b.c1; replace f_b0 := x_b.fr 0; replace f_b1 := x_b.fr 1; replace q_b2 := x_b.c2; replace f_b2 := x_b.fr 2; replace q_c0 := x_c.c0; replace q_c1 := x_c.c1; replace f_c0 := x_c.fr 0; replace f_c1 := x_c.fr 1; replace q_c2 := x_c.c2; replace f_c2 := x_c.fr 2; rw [Hk3.out] at z2 ⊢; rw [Hk4.out]) | (go_at_call 11; (with_reducible refine (DNorm_any za hT 5 (by omega) (by omega)).mono ?_); rintro e v17 ⟨A3_, n3_, c3_, rfl, z3, hb1⟩; replace x_a := x_a.keep hb1; replace x_b := x_b.keep hb1; replace x_c := x_c.keep hb1; replace hT := hT.keep hb1; replace za := za.keep hb1; replace zb := zb.keep hb1; replace zc := zc.keep hb1; replace z1 := z1.keep hb1; replace z2 := z2.keep hb1; replace hb := bthen hb hb1; clear hb1; replace q_a0 := x_a.c0; replace q_a1 := x_a.c1; replace f_a0 := x_a.fr 0; replace f_a1 := x_a.fr 1; replace q_a2 := x_a.c2; replace f_a2 := x_a.fr 2; replace q_b0 := x_b.c0; replace q_b1 := x_b.c1; replace f_b0 := x_b.fr 0; replace f_b1 := x_b.fr 1; replace q_b2 := x_b.c2; replace f_b2 := x_b.fr 2; replace q_c0 := x_c.c0; replace q_c1 := x_c.c1; replace f_c0 := x_c.fr 0; replace f_c1 := x_c.fr 1; replace q_c2 := x_c.c2; replace f_c2 := x_c.fr 2; rw [Hm5.out.1] at z3 ⊢; rw [Hm5.out.2]) | (go_at_call 12; (with_reducible refine (Dequal_any z2 z3 rfl rfl).mono ?_); rintro e v18 ⟨rfl, hb1⟩; replace x_a := x_a.keep hb1; replace x_b := x_b.keep hb1; replace x_c := x_c.keep hb1; replace hT := hT.keep hb1; replace za := za.keep hb1; replace zb := zb.keep hb1; replace zc := zc.keep hb1; replace z1 := z1.keep hb1; replace z2 := z2.keep hb1; replace z3 := z3.keep hb1; replace hb := bthen hb hb1; clear hb1; replace q_a0 := x_a.c0; replace q_a1 := x_a.c1; replace f_a0 := x_a.fr 0; replace f_a1 := x_a.fr 1; replace q_a2 := x_a.c2; replace f_a2 := x_a.fr 2; replace q_b0 := x_b.c0; replace q_b1 := x_b.c1; replace f_b0 := x_b.fr 0; replace f_b1 := x_b.fr 1; replace q_b2 := x_b.c2; replace f_b2 := x_b.fr 2; replace q_c0 := x_c.c0; replace q_c1 := x_c.c1; replace f_c0 := x_c.fr 0; replace f_c1 := x_c.fr 1; replace q_c2 := x_c.c2; replace f_c2 := x_c.fr 2))
  clear z1 z2 z3
  go_upto_region 7 with fail
  have hv := Below.refl v18.heap.size v18
  have l_a_t := x_a.lt
  have l_b_t := x_b.lt
  have l_c_t := x_c.lt
  go_cut [10] (fun s9 wx => DxNew v18 (A * 8) (Ea - 3) 140 s9 wx)
  case first =>
    go_region_held3 (fun w' => w'.cell? ⟨w.heap.size, 0, none⟩ = some (.bool b) ∧ w'.cell? ⟨w.heap.size, 1, none⟩ = some (.slice Aa_ na_ ca_) ∧ w'.cell? ⟨w.heap.size, 2, none⟩ = some (.int .i64 Ea))
      (first | (with_reducible exact ⟨x_a.c0, x_a.c1, x_a.c2⟩) | (with_reducible exact ⟨(x_a.alloc _).c0, (x_a.alloc _).c1, (x_a.alloc _).c2⟩) | (with_reducible exact ⟨(x_a.asideD (by omega)).c0, (x_a.asideD (by omega)).c1, (x_a.asideD (by omega)).c2⟩) | (with_reducible exact ⟨((x_a.alloc _).asideD (by omega)).c0, ((x_a.alloc _).asideD (by omega)).c1, ((x_a.alloc _).asideD (by omega)).c2⟩) | go_keep)
      (first | (go_at_call 38; (with_reducible refine (ZShl_any za.drw 3 140 (by omega) (by omega)).mono ?_); rintro e v19 ⟨A1, n1, c1, rfl, z1, hb1⟩; replace hb1 := undrew hb1; (try replace x_t := x_t.keep hb1); replace hv := bthen hv hb1; have hvs_v19 := hv.size; replace x_a := x_a.keep hb1; replace x_b := x_b.keep hb1; replace x_c := x_c.keep hb1; replace hT := hT.keep hb1; replace za := za.keep hb1; replace zb := zb.keep hb1; replace zc := zc.keep hb1; replace hb := bthen hb hb1; clear hb1; replace q_a0 := x_a.c0; replace q_a1 := x_a.c1; replace f_a0 := x_a.fr 0; replace f_a1 := x_a.fr 1; replace q_a2 := x_a.c2; replace f_a2 := x_a.fr 2; replace q_b0 := x_b.c0; replace q_b1 := x_b.c1; replace f_b0 := x_b.fr 0; replace f_b1 := x_b.fr 1; replace q_b2 := x_b.c2; replace f_b2 := x_b.fr 2; replace q_c0 := x_c.c0; replace q_c1 := x_c.c1; replace f_c0 := x_c.fr 0; replace f_c1 := x_c.fr 1; replace q_c2 := x_c.c2; replace f_c2 := x_c.fr 2; rw [hs3, show (2 : Int) ^ 3 = 8 from rfl] at z1 ⊢; (try (have q_t0 := x_t.c0; have q_t1 := x_t.c1; have q_t2 := x_t.c2; have f_t0 := x_t.fr 0; have f_t1 := x_t.fr 1; have f_t2 := x_t.fr 2))) | (go_at_call 38; (with_reducible refine (ZShl_any (za.keep (below_alloc v18 (.cells #[.bool false, .slice none 0 0, .int .i64 0] 26))).drw 3 140 (by omega) (by omega)).mono ?_); rintro e v19 ⟨A1, n1, c1, rfl, z1, hb1⟩; replace hb1 := undrew hb1; have x_t := (Dx.new v18 false none 0 0 0).keep hb1; replace hb1 := bthen (below_alloc v18 (.cells #[.bool false, .slice none 0 0, .int .i64 0] 26)) hb1; replace hv := bthen hv hb1; have hvs_v19 := hv.size; replace x_a := x_a.keep hb1; replace x_b := x_b.keep hb1; replace x_c := x_c.keep hb1; replace hT := hT.keep hb1; replace za := za.keep hb1; replace zb := zb.keep hb1; replace zc := zc.keep hb1; replace hb := bthen hb hb1; clear hb1; replace q_a0 := x_a.c0; replace q_a1 := x_a.c1; replace f_a0 := x_a.fr 0; replace f_a1 := x_a.fr 1; replace q_a2 := x_a.c2; replace f_a2 := x_a.fr 2; replace q_b0 := x_b.c0; replace q_b1 := x_b.c1; replace f_b0 := x_b.fr 0; replace f_b1 := x_b.fr 1; replace q_b2 := x_b.c2; replace f_b2 := x_b.fr 2; replace q_c0 := x_c.c0; replace q_c1 := x_c.c1; replace f_c0 := x_c.fr 0; replace f_c1 := x_c.fr 1; replace q_c2 := x_c.c2; replace f_c2 := x_c.fr 2; rw [hs3, show (2 : Int) ^ 3 = 8 from rfl] at z1 ⊢; (try (have q_t0 := x_t.c0; have q_t1 := x_t.c1; have q_t2 := x_t.c2; have f_t0 := x_t.fr 0; have f_t1 := x_t.fr 1; have f_t2 := x_t.fr 2))))
    all_goals go_wp2_with fail
    all_goals go_meet
    all_goals first | exact DxNew.new hv z1 | exact DxNew.put hv x_t (by omega) z1
  case rest =>
    obtain ⟨g20, A21, n21, c21, rfl, x_t, z_t, e_t, hb1⟩ := hcut
    clear hv
    replace x_a := x_a.keep hb1
    replace x_b := x_b.keep hb1
    replace x_c := x_c.keep hb1
    replace hT := hT.keep hb1
    replace za := za.keep hb1
    replace zb := zb.keep hb1
    replace zc := zc.keep hb1
    replace hb := bthen hb hb1
    clear hb1
    replace q_a0 := x_a.c0; replace q_a1 := x_a.c1; replace f_a0 := x_a.fr 0; replace f_a1 := x_a.fr 1; replace q_a2 := x_a.c2; replace f_a2 := x_a.fr 2
    replace q_b0 := x_b.c0; replace q_b1 := x_b.c1; replace f_b0 := x_b.fr 0; replace f_b1 := x_b.fr 1; replace q_b2 := x_b.c2; replace f_b2 := x_b.fr 2
    replace q_c0 := x_c.c0; replace q_c1 := x_c.c1; replace f_c0 := x_c.fr 0; replace f_c1 := x_c.fr 1; replace q_c2 := x_c.c2; replace f_c2 := x_c.fr 2
    clear q_a0 q_a1 f_a0 f_a1 q_a2 f_a2 q_b0 q_b1 f_b0 f_b1 q_b2 f_b2 q_c0 q_c1 f_c0 f_c1 q_c2 f_c2
    generalize wc = v22 at *
    have q_a0 := x_a.c0; have q_a1 := x_a.c1; have f_a0 := x_a.fr 0; have f_a1 := x_a.fr 1; have q_a2 := x_a.c2; have f_a2 := x_a.fr 2
    have q_b0 := x_b.c0; have q_b1 := x_b.c1; have f_b0 := x_b.fr 0; have f_b1 := x_b.fr 1; have q_b2 := x_b.c2; have f_b2 := x_b.fr 2
    have q_c0 := x_c.c0; have q_c1 := x_c.c1; have f_c0 := x_c.fr 0; have f_c1 := x_c.fr 1; have q_c2 := x_c.c2; have f_c2 := x_c.fr 2
    have q_t0 := x_t.c0; have q_t1 := x_t.c1; have f_t0 := x_t.fr 0; have f_t1 := x_t.fr 1; have q_t2 := x_t.c2; have f_t2 := x_t.fr 2
    go_wp2_with fail
    go_region_held3 (fun w' => w'.cell? ⟨w.heap.size, 0, none⟩ = some (.bool b) ∧ w'.cell? ⟨w.heap.size, 1, none⟩ = some (.slice Aa_ na_ ca_) ∧ w'.cell? ⟨w.heap.size, 2, none⟩ = some (.int .i64 Ea) ∧ w'.cell? ⟨w.heap.size + 1, 0, none⟩ = some (.bool b2) ∧ w'.cell? ⟨w.heap.size + 1, 1, none⟩ = some (.slice Ab_ nb_ cb_) ∧ w'.cell? ⟨w.heap.size + 1, 2, none⟩ = some (.int .i64 Eb) ∧ w'.cell? ⟨g20, 0, none⟩ = some (.bool (ngB (A * 8))) ∧ w'.cell? ⟨g20, 1, none⟩ = some (.slice A21 n21 c21) ∧ w'.cell? ⟨g20, 2, none⟩ = some (.int .i64 (Ea - 3)))
      (first | (with_reducible exact ⟨x_a.c0, x_a.c1, x_a.c2, x_b.c0, x_b.c1, x_b.c2, x_t.c0, x_t.c1, x_t.c2⟩) | (with_reducible exact ⟨(x_a.aside (by omega)).c0, (x_a.aside (by omega)).c1, (x_a.aside (by omega)).c2, (x_b.aside (by omega)).c0, (x_b.aside (by omega)).c1, (x_b.aside (by omega)).c2, (x_t.aside (by omega)).c0, (x_t.aside (by omega)).c1, (x_t.aside (by omega)).c2⟩) | (with_reducible exact ⟨((x_a.aside (by omega)).aside (by omega)).c0, ((x_a.aside (by omega)).aside (by omega)).c1, ((x_a.aside (by omega)).aside (by omega)).c2, ((x_b.aside (by omega)).aside (by omega)).c0, ((x_b.aside (by omega)).aside (by omega)).c1, ((x_b.aside (by omega)).aside (by omega)).c2, ((x_t.aside (by omega)).aside (by omega)).c0, ((x_t.aside (by omega)).aside (by omega)).c1, ((x_t.aside (by omega)).aside (by omega)).c2⟩) | (with_reducible exact ⟨(x_a.asideD (by omega)).c0, (x_a.asideD (by omega)).c1, (x_a.asideD (by omega)).c2, (x_b.asideD (by omega)).c0, (x_b.asideD (by omega)).c1, (x_b.asideD (by omega)).c2, (x_t.asideD (by omega)).c0, (x_t.asideD (by omega)).c1, (x_t.asideD (by omega)).c2⟩) | (with_reducible exact ⟨((x_a.asideD (by omega)).asideD (by omega)).c0, ((x_a.asideD (by omega)).asideD (by omega)).c1, ((x_a.asideD (by omega)).asideD (by omega)).c2, ((x_b.asideD (by omega)).asideD (by omega)).c0, ((x_b.asideD (by omega)).asideD (by omega)).c1, ((x_b.asideD (by omega)).asideD (by omega)).c2, ((x_t.asideD (by omega)).asideD (by omega)).c0, ((x_t.asideD (by omega)).asideD (by omega)).c1, ((x_t.asideD (by omega)).asideD (by omega)).c2⟩) | go_keep)
      (first | (go_at_call 22; (with_reducible refine (DAdd_any z_t.drw.zr zb.drw hT.drw 280 (by omega) (by omega) (by omega)).mono ?_); rintro e v23 ⟨A1, n1, c1, rfl, z1, hb1⟩; replace hb1 := undrew hb1; replace x_a := x_a.keep hb1; replace x_b := x_b.keep hb1; replace x_c := x_c.keep hb1; replace x_t := x_t.keep hb1; replace hT := hT.keep hb1; replace za := za.keep hb1; replace zb := zb.keep hb1; replace zc := zc.keep hb1; replace z_t := z_t.keep hb1; replace hb := bthen hb hb1; clear hb1; replace q_a0 := x_a.c0; replace q_a1 := x_a.c1; replace f_a0 := x_a.fr 0; replace f_a1 := x_a.fr 1; replace q_a2 := x_a.c2; replace f_a2 := x_a.fr 2; replace q_b0 := x_b.c0; replace q_b1 := x_b.c1; replace f_b0 := x_b.fr 0; replace f_b1 := x_b.fr 1; replace q_b2 := x_b.c2; replace f_b2 := x_b.fr 2; replace q_c0 := x_c.c0; replace q_c1 := x_c.c1; replace f_c0 := x_c.fr 0; replace f_c1 := x_c.fr 1; replace q_c2 := x_c.c2; replace f_c2 := x_c.fr 2; replace q_t0 := x_t.c0; replace q_t1 := x_t.c1; replace f_t0 := x_t.fr 0; replace f_t1 := x_t.fr 1; replace q_t2 := x_t.c2; replace f_t2 := x_t.fr 2; rw [Hk5.out] at z1 ⊢; rw [Hk6.out]) | (go_at_call 22; (with_reducible refine (DAdd_any za zb hT 140 (by omega) (by omega) (by omega)).mono ?_); rintro e v24 ⟨A2_, n2_, c2_, rfl, z2, hb1⟩; replace x_a := x_a.keep hb1; replace x_b := x_b.keep hb1; replace x_c := x_c.keep hb1; replace x_t := x_t.keep hb1; replace hT := hT.keep hb1; replace za := za.keep hb1; replace zb := zb.keep hb1; replace zc := zc.keep hb1; replace z_t := z_t.keep hb1; replace z1 := z1.keep hb1; replace hb := bthen hb hb1; clear hb1; replace q_a0 := x_a.c0; replace q_a1 := x_a.c1; replace f_a0 := x_a.fr 0; replace f_a1 := x_a.fr 1; replace q_a2 := x_a.c2; replace f_a2 := x_a.fr 2; replace q_b0 := x_b.c0; replace q_b1 := x_b.c1; replace f_b0 := x_b.fr 0; replace f_b1 := x_b.fr 1; replace q_b2 := x_b.c2; replace f_b2 := x_b.fr 2; replace q_c0 := x_c.c0; replace q_c1 := x_c.c1; replace f_c0 := x_c.fr 0; replace f_c1 := x_c.fr 1; replace q_c2 := x_c.c2; replace f_c2 := x_c.fr 2; replace q_t0 := x_t.c0; replace q_t1 := x_t.c1; replace f_t0 := x_t.fr 0; replace f_t1 := x_t.fr 1; replace q_t2 := x_t.c2; replace f_t2 := x_t.fr 2) | (go_at_call 12; (with_reducible refine (Dequal_any z1 z2 rfl rfl).mono ?_); rintro e v25 ⟨rfl, hb1⟩; replace x_a := x_a.keep hb1; replace x_b := x_b.keep hb1; replace x_c := x_c.keep hb1; replace x_t := x_t.keep hb1; replace hT := hT.keep hb1; replace za := za.keep hb1; replace zb := zb.keep hb1; replace zc := zc.keep hb1; replace z_t := z_t.keep hb1; replace z1 := z1.keep hb1; replace z2 := z2.keep hb1; replace hb := bthen hb hb1; clear hb1; replace q_a0 := x_a.c0; replace q_a1 := x_a.c1; replace f_a0 := x_a.fr 0; replace f_a1 := x_a.fr 1; replace q_a2 := x_a.c2; replace f_a2 := x_a.fr 2; replace q_b0 := x_b.c0; replace q_b1 := x_b.c1; replace f_b0 := x_b.fr 0; replace f_b1 := x_b.fr 1; replace q_b2 := x_b.c2; replace f_b2 := x_b.fr 2; replace q_c0 := x_c.c0; replace q_c1 := x_c.c1; replace f_c0 := x_c.fr 0; replace f_c1 := x_c.fr 1; replace q_c2 := x_c.c2; replace f_c2 := x_c.fr 2; replace q_t0 := x_t.c0; replace q_t1 := x_t.c1; replace f_t0 := x_t.fr 0; replace f_t1 := x_t.fr 1; replace q_t2 := x_t.c2; replace f_t2 := x_t.fr 2))
    go_wp2_with fail
    clear z1 z2
    obtain ⟨s1, hs1⟩ : ∃ s1, sgnI (alP A Ea Eb - alQ B Ea Eb) = s1 := ⟨_, rfl⟩
    have HS1 := Lib.hid hs1; clear hs1
    go_region_held3 (fun w' => w'.cell? ⟨w.heap.size, 0, none⟩ = some (.bool b) ∧ w'.cell? ⟨w.heap.size, 1, none⟩ = some (.slice Aa_ na_ ca_) ∧ w'.cell? ⟨w.heap.size, 2, none⟩ = some (.int .i64 Ea) ∧ w'.cell? ⟨w.heap.size + 1, 0, none⟩ = some (.bool b2) ∧ w'.cell? ⟨w.heap.size + 1, 1, none⟩ = some (.slice Ab_ nb_ cb_) ∧ w'.cell? ⟨w.heap.size + 1, 2, none⟩ = some (.int .i64 Eb) ∧ w'.cell? ⟨g20, 0, none⟩ = some (.bool (ngB (A * 8))) ∧ w'.cell? ⟨g20, 1, none⟩ = some (.slice A21 n21 c21) ∧ w'.cell? ⟨g20, 2, none⟩ = some (.int .i64 (Ea - 3)))
      (first | (with_reducible exact ⟨x_a.c0, x_a.c1, x_a.c2, x_b.c0, x_b.c1, x_b.c2, x_t.c0, x_t.c1, x_t.c2⟩) | (with_reducible exact ⟨(x_a.aside (by omega)).c0, (x_a.aside (by omega)).c1, (x_a.aside (by omega)).c2, (x_b.aside (by omega)).c0, (x_b.aside (by omega)).c1, (x_b.aside (by omega)).c2, (x_t.aside (by omega)).c0, (x_t.aside (by omega)).c1, (x_t.aside (by omega)).c2⟩) | (with_reducible exact ⟨((x_a.aside (by omega)).aside (by omega)).c0, ((x_a.aside (by omega)).aside (by omega)).c1, ((x_a.aside (by omega)).aside (by omega)).c2, ((x_b.aside (by omega)).aside (by omega)).c0, ((x_b.aside (by omega)).aside (by omega)).c1, ((x_b.aside (by omega)).aside (by omega)).c2, ((x_t.aside (by omega)).aside (by omega)).c0, ((x_t.aside (by omega)).aside (by omega)).c1, ((x_t.aside (by omega)).aside (by omega)).c2⟩) | (with_reducible exact ⟨(x_a.asideD (by omega)).c0, (x_a.asideD (by omega)).c1, (x_a.asideD (by omega)).c2, (x_b.asideD (by omega)).c0, (x_b.asideD (by omega)).c1, (x_b.asideD (by omega)).c2, (x_t.asideD (by omega)).c0, (x_t.asideD (by omega)).c1, (x_t.asideD (by omega)).c2⟩) | (with_reducible exact ⟨((x_a.asideD (by omega)).asideD (by omega)).c0, ((x_a.asideD (by omega)).asideD (by omega)).c1, ((x_a.asideD (by omega)).asideD (by omega)).c2, ((x_b.asideD (by omega)).asideD (by omega)).c0, ((x_b.asideD (by omega)).asideD (by omega)).c1, ((x_b.asideD (by omega)).asideD (by omega)).c2, ((x_t.asideD (by omega)).asideD (by omega)).c0, ((x_t.asideD (by omega)).asideD (by omega)).c1, ((x_t.asideD (by omega)).asideD (by omega)).c2⟩) | go_keep)
      (first | (go_at_call 20; (with_reducible refine (DCmp_any za.drw zb.drw (by omega) (by omega)).mono ?_); rintro e v26 ⟨rfl, hb1⟩; replace hb1 := undrew hb1; replace x_a := x_a.keep hb1; replace x_b := x_b.keep hb1; replace x_c := x_c.keep hb1; replace x_t := x_t.keep hb1; replace hT := hT.keep hb1; replace za := za.keep hb1; replace zb := zb.keep hb1; replace zc := zc.keep hb1; replace z_t := z_t.keep hb1; replace hb := bthen hb hb1; clear hb1; replace q_a0 := x_a.c0; replace q_a1 := x_a.c1; replace f_a0 := x_a.fr 0; replace f_a1 := x_a.fr 1; replace q_a2 := x_a.c2; replace f_a2 := x_a.fr 2; replace q_b0 := x_b.c0; replace q_b1 := x_b.c1; replace f_b0 := x_b.fr 0; replace f_b1 := x_b.fr 1; replace q_b2 := x_b.c2; replace f_b2 := x_b.fr 2; replace q_c0 := x_c.c0; replace q_c1 := x_c.c1; replace f_c0 := x_c.fr 0; replace f_c1 := x_c.fr 1; replace q_c2 := x_c.c2; replace f_c2 := x_c.fr 2; replace q_t0 := x_t.c0; replace q_t1 := x_t.c1; replace f_t0 := x_t.fr 0; replace f_t1 := x_t.fr 1; replace q_t2 := x_t.c2; replace f_t2 := x_t.fr 2; rw [HS1.out]) | (go_at_call 24; (with_reducible refine (DSub_any za zb hT 140 (by omega) (by omega) (by omega)).mono ?_); rintro e v27 ⟨A1, n1, c1, rfl, z1, hb1⟩; replace x_a := x_a.keep hb1; replace x_b := x_b.keep hb1; replace x_c := x_c.keep hb1; replace x_t := x_t.keep hb1; replace hT := hT.keep hb1; replace za := za.keep hb1; replace zb := zb.keep hb1; replace zc := zc.keep hb1; replace z_t := z_t.keep hb1; replace hb := bthen hb hb1; clear hb1; replace q_a0 := x_a.c0; replace q_a1 := x_a.c1; replace f_a0 := x_a.fr 0; replace f_a1 := x_a.fr 1; replace q_a2 := x_a.c2; replace f_a2 := x_a.fr 2; replace q_b0 := x_b.c0; replace q_b1 := x_b.c1; replace f_b0 := x_b.fr 0; replace f_b1 := x_b.fr 1; replace q_b2 := x_b.c2; replace f_b2 := x_b.fr 2; replace q_c0 := x_c.c0; replace q_c1 := x_c.c1; replace f_c0 := x_c.fr 0; replace f_c1 := x_c.fr 1; replace q_c2 := x_c.c2; replace f_c2 := x_c.fr 2; replace q_t0 := x_t.c0; replace q_t1 := x_t.c1; replace f_t0 := x_t.fr 0; replace f_t1 := x_t.fr 1; replace q_t2 := x_t.c2; replace f_t2 := x_t.fr 2) | (go_at_call 18; (with_reducible refine (DSign_any z1.zr (by omega)).mono ?_); rintro e v28 ⟨rfl, hb1⟩; replace x_a := x_a.keep hb1; replace x_b := x_b.keep hb1; replace x_c := x_c.keep hb1; replace x_t := x_t.keep hb1; replace hT := hT.keep hb1; replace za := za.keep hb1; replace zb := zb.keep hb1; replace zc := zc.keep hb1; replace z_t := z_t.keep hb1; replace z1 := z1.keep hb1; replace hb := bthen hb hb1; clear hb1; replace q_a0 := x_a.c0; replace q_a1 := x_a.c1; replace f_a0 := x_a.fr 0; replace f_a1 := x_a.fr 1; replace q_a2 := x_a.c2; replace f_a2 := x_a.fr 2; replace q_b0 := x_b.c0; replace q_b1 := x_b.c1; replace f_b0 := x_b.fr 0; replace f_b1 := x_b.fr 1; replace q_b2 := x_b.c2; replace f_b2 := x_b.fr 2; replace q_c0 := x_c.c0; replace q_c1 := x_c.c1; replace f_c0 := x_c.fr 0; replace f_c1 := x_c.fr 1; replace q_c2 := x_c.c2; replace f_c2 := x_c.fr 2; replace q_t0 := x_t.c0; replace q_t1 := x_t.c1; replace f_t0 := x_t.fr 0; replace f_t1 := x_t.fr 1; replace q_t2 := x_t.c2; replace f_t2 := x_t.fr 2; rw [Hm6.out, HS1.out]) | (go_at_call 20; (with_reducible refine (DCmp_any z_t.zr za (by omega) (by omega)).mono ?_); rintro e v29 ⟨rfl, hb1⟩; replace x_a := x_a.keep hb1; replace x_b := x_b.keep hb1; replace x_c := x_c.keep hb1; replace x_t := x_t.keep hb1; replace hT := hT.keep hb1; replace za := za.keep hb1; replace zb := zb.keep hb1; replace zc := zc.keep hb1; replace z_t := z_t.keep hb1; replace z1 := z1.keep hb1; replace hb := bthen hb hb1; clear hb1; replace q_a0 := x_a.c0; replace q_a1 := x_a.c1; replace f_a0 := x_a.fr 0; replace f_a1 := x_a.fr 1; replace q_a2 := x_a.c2; replace f_a2 := x_a.fr 2; replace q_b0 := x_b.c0; replace q_b1 := x_b.c1; replace f_b0 := x_b.fr 0; replace f_b1 := x_b.fr 1; replace q_b2 := x_b.c2; replace f_b2 := x_b.fr 2; replace q_c0 := x_c.c0; replace q_c1 := x_c.c1; replace f_c0 := x_c.fr 0; replace f_c1 := x_c.fr 1; replace q_c2 := x_c.c2; replace f_c2 := x_c.fr 2; replace q_t0 := x_t.c0; replace q_t1 := x_t.c1; replace f_t0 := x_t.fr 0; replace f_t1 := x_t.fr 1; replace q_t2 := x_t.c2; replace f_t2 := x_t.fr 2; rw [Hk7.out]))
    all_goals go_wp2
    all_goals go_ret
    all_goals exact ⟨by simp, hb⟩
end
end Go.Proofs.YtcoidcbbdibnaaaDoor
namespace Go.Proofs.YtcoidcbbdibnaaaDoor
section
open Go.Joins Go.ChangeShapes Go.WideShapes Go.ChangeAt Go.RowKit
set_option linter.unusedVariables false

set_option maxRecDepth 100000 in
theorem DyadRing_lifted (os : Go.Os) (started : os.Started) (H : Type) (enc : TypeId × Value → H) :
    ReturnsInHanded {} Tryd.checked os 6 .any (fun w args => (Rows.dyadRingSpec.pre enc Tryd.prog Tryd.f6 [] false w args ∧ laidMetH Tryd.prog laidT w) ∧ sizedMet enc Tryd.prog Tryd.f6 (OpenSpec.ofChange Rows.dyadRingSpec) false w args)
      (Rows.dyadRingSpec.post enc Tryd.prog Tryd.f6 false true false false) := by
  refine returnsInHanded_of_change_and (C := Tryd.checked) (X := fun w _ => laidMetH Tryd.prog laidT w) (fun _ _ _ hh h => h.of_heap hh) Tryd.own started (by kernel_rfl) Tryd.func6
    (ChangeSpec.witness_shaped (enc := enc) (C := Tryd.checked) (os := os) (X := fun w _ => laidMetH Tryd.prog laidT w) false (World.doorLaid Tryd.prog 400 os) #[.agg #[.bool false, .slice none 0 0, .int .i64 0], .agg #[.bool false, .slice none 0 0, .int .i64 0], .agg #[.bool false, .slice none 0 0, .int .i64 0]] 8 rfl (World.shaped_of_RefB (by kernel_rfl) (by kernel_rfl)) (by kernel_rfl) (by kernel_rfl) (by kernel_rfl) (door_met os _)) ?_
  intro W base args ds gs before hval0 hW _ hsz0 hL _
  have hsz : (DataW.weightsEach Tryd.prog (Tryd.f6.params.toList ++ Rows.dyadRingSpec.plain.varTypes Tryd.prog) (ds ++ gs)).all (· ≤ reachBytes) = true := hsz0
  clear hsz0
  have hval : ∀ (j : Nat) t v, Tryd.f6.params[j]? = some t → args[j]? = some v → Value.okWide Tryd.prog W .any base t v := hval0
  have hW' := hW
  obtain ⟨p, q, hA0, hV, rfl, _, _⟩ := hW
  have hA : DataW.TrodAll enc Tryd.prog W 0 (fun _ => true) true Tryd.f6.params.toList args.toList ds p := hA0
  rw [Tryd.params6] at hA hval hsz
  obtain ⟨v0, vs0, d0, ds0, p0, q0, hargs, rfl, rfl, h0, r0⟩ := trodAll_cons hA
  obtain ⟨v1, vs1, d1, ds1, p1, q1, rfl, rfl, rfl, h1, r1⟩ := trodAll_cons r0
  obtain ⟨v2, vs2, d2, ds2, p2, q2, rfl, rfl, rfl, h2, r2⟩ := trodAll_cons r1
  obtain ⟨rfl, rfl, rfl⟩ := trodAll_nil r2
  obtain rfl : args = #[v0, v1, v2] := by cases args; simp_all
  obtain ⟨rfl, rfl⟩ := trodVars_none hV
  clear hA0 hval0 hA
  simp only [List.append_nil] at hW'
  have hlt0 : ∀ x ∈ p0, x.block < W.heap.size := fun x hx => by simpa using hW'.lt x (by simp [hx])
  have hlt1 : ∀ x ∈ p1, x.block < W.heap.size := fun x hx => by simpa using hW'.lt x (by simp [hx])
  have hlt2 : ∀ x ∈ p2, x.block < W.heap.size := fun x hx => by simpa using hW'.lt x (by simp [hx])
  have hback0 : ∀ W' : World, Below W.heap.size W W' → DataW.Trod enc Tryd.prog W' 0 (fun b => decide (b < W.heap.size)) true 26 v0 d0 p0 :=
    fun W' hn => Below.trod Tryd.laidOut (by kernel_rfl) (of_decide_eq_true (by kernel_rfl)) h0 hn hlt0
  obtain ⟨b0, A0, n0, c0, l0, e0, rfl, g0, ge0⟩ := open_d (hval 0 26 v0 rfl rfl) h0 hlt0 (fun dd de elems spare hd => sized_dmag hsz (j := 0) (d0 := dd) (d1 := de) rfl (by simp [hd]))
  have hback1 : ∀ W' : World, Below W.heap.size W W' → DataW.Trod enc Tryd.prog W' 0 (fun b => decide (b < W.heap.size)) true 26 v1 d1 p1 :=
    fun W' hn => Below.trod Tryd.laidOut (by kernel_rfl) (of_decide_eq_true (by kernel_rfl)) h1 hn hlt1
  obtain ⟨b1, A1, n1, c1, l1, e1, rfl, g1, ge1⟩ := open_d (hval 1 26 v1 rfl rfl) h1 hlt1 (fun dd de elems spare hd => sized_dmag hsz (j := 1) (d0 := dd) (d1 := de) rfl (by simp [hd]))
  have hback2 : ∀ W' : World, Below W.heap.size W W' → DataW.Trod enc Tryd.prog W' 0 (fun b => decide (b < W.heap.size)) true 26 v2 d2 p2 :=
    fun W' hn => Below.trod Tryd.laidOut (by kernel_rfl) (of_decide_eq_true (by kernel_rfl)) h2 hn hlt2
  obtain ⟨b2, A2, n2, c2, l2, e2, rfl, g2, ge2⟩ := open_d (hval 2 26 v2 rfl rfl) h2 hlt2 (fun dd de elems spare hd => sized_dmag hsz (j := 2) (d0 := dd) (d1 := de) rfl (by simp [hd]))
  refine (DyadRing_any (tab_of_laid hL) g0 g1 g2).mono fun e W' ⟨he, hb⟩ => ?_
  subst he
  exact ⟨_, rfl, _, _, _, [], _, [], hW', trodAll_mk1 (shut_bool Tryd.underlying4 _), (trodAll_cons_mk (hback0 _ hb) (trodAll_cons_mk (hback1 _ hb) (trodAll_cons_mk (hback2 _ hb) trodAll_mk0))), rfl, hb.frame _, fun h => by cases h⟩

theorem DyadRing_row : Rows.DyadRingSaid :=
  OpenClaim.holds_of_wide 6 Tryd.f6 rfl rfl rfl rfl rfl rfl rfl ⟨rfl, rfl, rfl, rfl, rfl⟩ rfl rfl rfl rfl rfl (by kernel_rfl) Tryd.func6 (by kernel_rfl)
    (of_decide_eq_true (by kernel_rfl)) (by unfold Func.isWrapper; first | (rw [if_pos (by decide +kernel)]; kernel_rfl) | (rw [if_neg (by decide +kernel)]; exact ⟨rfl, rfl⟩))
    (fun os started H enc _ => DyadRing_lifted os started H enc)
set_option maxRecDepth 100000 in
theorem DyadRing_holds : Rows.DyadRingCardSaid :=
  Claim7.holds_tied_plain_at .later [] [.data] true (true, "785c6cfebb1c4402e6dac8b8a0f000d6c160c57ee8e09e1552b177c778bf7ab1") false
    DyadRing_row (fun _ h => by cases h) (by kernel_rfl) (fun _ h => by cases h) dyadRing_row_tie rfl ⟨rfl, rfl⟩ (by kernel_rfl) rfl
    (fun f fn hf hfn => by
      obtain rfl : f = 6 := Option.some.inj ((show Tryd.prog.funcNamed "hairline/hairlinelaw03.DyadRing" = some 6 by kernel_rfl).symm.trans hf) |>.symm
      obtain rfl : fn = Tryd.f6 := (Option.some.inj (Tryd.func6.symm.trans hfn)).symm
      exact ⟨by kernel_rfl, fun j t ht => by
        rw [Tryd.params6] at ht
        have hm : t ∈ [26, 26, 26] := by simpa using Array.mem_of_getElem? ht
        have hall : ([26, 26, 26].all fun u => !Tryd.prog.wantsStandIn u) = true := by kernel_rfl
        exact (show Tryd.prog.wantsStandIn t = false by simpa using List.all_eq_true.1 hall t hm)⟩)
    (by kernel_rfl)
end
end Go.Proofs.YtcoidcbbdibnaaaDoor
