/-
  The law DyadStands holds: for every input the call returns true, and each argument reads afterwards as it read before; the table of math/bits reads as the program's text lays it (the card ties it). No other condition.
-/
import Derived.Test.YtcoidcbbdibnaaaDoorSmall
import Derived.ProofKit
import Derived.SizedLaws
import Derived.OpenShut
import Derived.Test.YtcoidcbbdibnaaaDoorZint
import Derived.Lib.SmallJoins
import Derived.Test.YtcoidcbbdibnaaaDoorDint
import Derived.Test.YtcoidcbbdibnaaaDoorCards
import Derived.Test.YtcoidcbbdibnaaaDoorTie
import Derived.LaidMore
import Derived.SevenTiedAt
import Derived.Test.YtcoidcbbdibnaaaDoorZcut
import Derived.Test.YtcoidcbbdibnaaaDoorDadd
import Derived.Test.YtcoidcbbdibnaaaDoorDfun
import Derived.Test.YtcoidcbbdibnaaaDoorZtext
import Derived.Test.YtcoidcbbdibnaaaDoorDres
import Derived.Test.YtcoidcbbdibnaaaDoorZref3
import Derived.Test.YtcoidcbbdibnaaaDoorDvd
import Derived.Test.YtcoidcbbdibnaaaDoorZref
import Derived.Test.YtcoidcbbdibnaaaDoorZmul
import Derived.Test.YtcoidcbbdibnaaaDoorZshr
namespace Go.Proofs.YtcoidcbbdibnaaaDoor
section
open Go.ChangeShapes Go.WideShapes Go.ChangeAt Go.RowKit
set_option linter.unusedVariables false

theorem Tryd.own : ownKnob Tryd.prog.godebug = none := by kernel_rfl
theorem Tryd.laidOut : laidOutB Tryd.prog = true := by kernel_rfl
theorem Tryd.cells64 : Tryd.prog.cellsOf 31 = 1 := by kernel_rfl
theorem Tryd.bytes64 : Tryd.prog.bytesOf 31 = 8 := by kernel_rfl

theorem wf_lm {n : Int} (h : (Lit.int .u64 n).wf = true) : 0 ≤ n ∧ n < (Wd : Int) := by
  simp only [Lit.wf, Bool.and_eq_true, decide_eq_true_eq] at h
  have h1 : IntKind.u64.min = 0 := rfl
  have h2 : IntKind.u64.max = 18446744073709551615 := rfl
  rw [Wd_eq]; omega
theorem bounds_int {n : Int} (h : (Lit.int .i64 n).wf = true) : -9223372036854775808 ≤ n ∧ n ≤ 9223372036854775807 := by
  simp only [Lit.wf, Bool.and_eq_true, decide_eq_true_eq] at h
  have h1 : IntKind.i64.min = -9223372036854775808 := rfl
  have h2 : IntKind.i64.max = 9223372036854775807 := rfl
  omega

/-- A slice of limbs that came in. -/
theorem open_rd {H : Type} {enc : TypeId × Value → H} {W : World} {base : Nat} {v : Value} {d : DataW H} {ps : List MemPlace} (hok : Value.okWide Tryd.prog W .any base 22 v)
    (h : DataW.Trod enc Tryd.prog W 0 (fun _ => true) true 22 v d ps) (hlt : ∀ x ∈ ps, x.block < W.heap.size)
    (hsz : ∀ elems spare, d = .slice elems spare → (elems.length + spare.length) * Tryd.prog.bytesOf 31 ≤ reachBytes) : ∃ A n c l, v = .slice A n c ∧ Rd W W.heap.size A n c l := by
  obtain ⟨a0, len, cap, rfl⟩ := okWide_slice Tryd.underlying22 hok
  obtain ⟨fuel, hf⟩ := h
  rcases open_ints Tryd.underlying22 Tryd.underlying31 Tryd.cells64 hf with ⟨hcs, hx⟩ | ⟨a, len', cap', zs, hcs, _, hl, hm, hz, hx, hcell, hwz⟩
  · simp [Value.cells] at hcs
    obtain ⟨rfl, rfl, rfl⟩ := hcs
    exact ⟨_, _, _, [], rfl, Rd.nil⟩
  · simp [Value.cells] at hcs
    obtain ⟨rfl, rfl, rfl⟩ := hcs
    simp only [Prod.mk.injEq] at hx
    obtain ⟨rfl, rfl⟩ := hx
    simp only [if_true] at hz
    have hreach := hsz _ _ rfl
    rw [Tryd.bytes64] at hreach
    simp only [lits, List.length_map, List.length_take, List.length_drop, reachBytes] at hreach
    have hzl : (zs.take len).length = len := by simp; omega
    refine ⟨_, _, _, zs.take len, rfl, hzl, hl, by omega, fun x hx => wf_lm (hwz x (List.mem_of_mem_take hx)), fun hn => ?_⟩
    obtain ⟨b, off, spot⟩ := a
    have hspot : spot = none := by simpa [Addr.add] using World.cell?_spot (hcell 0 (by omega))
    subst hspot
    have hbW : b < W.heap.size := hlt (.cell b off) (MemPlace.mem_row.2 ⟨0, by omega, by simp⟩)
    refine ⟨b, off, rfl, hbW, fun k hk => ?_⟩
    have hk2 : k < zs.length := by omega
    rw [← add_plain, hcell k hk2, List.getElem_take]
    simp [List.getD, List.getElem?_eq_getElem hk2]
end
end Go.Proofs.YtcoidcbbdibnaaaDoor
namespace Go.Proofs.YtcoidcbbdibnaaaDoor
section
open Go.Joins Go.ChangeShapes Go.WideShapes Go.ChangeAt Go.RowKit
set_option linter.unusedVariables false

theorem Tryd.cellsInt : Tryd.prog.cellsOf 24 = 2 := by kernel_rfl

theorem sized_mag {H : Type} {ts : List TypeId} {ds : List (DataW H)} (h : (DataW.weightsEach Tryd.prog ts ds).all (· ≤ reachBytes) = true) {j : Nat} {d0 : DataW H} {elems spare : List (DataW H)} (ht : ts[j]? = some 24) (hd : ds[j]? = some (.agg [d0, .slice elems spare])) :
    (elems.length + spare.length) * Tryd.prog.bytesOf 31 ≤ reachBytes := by
  have := List.all_eq_true.1 h _ (DataW.weights_mem_each ht hd ((elems.length + spare.length) * Tryd.prog.bytesOf 31) (by simp [DataW.weights, DataW.weightsEach, Tryd.underlying24, Tryd.underlying22]))
  simpa using this

/-- An integer that came in. -/
theorem open_z {H : Type} {enc : TypeId × Value → H} {W : World} {base : Nat} {v : Value} {d : DataW H} {ps : List MemPlace} (hok : Value.okWide Tryd.prog W .any base 24 v)
    (h : DataW.Trod enc Tryd.prog W 0 (fun _ => true) true 24 v d ps) (hlt : ∀ x ∈ ps, x.block < W.heap.size)
    (hsz : ∀ d0 elems spare, d = .agg [d0, .slice elems spare] → (elems.length + spare.length) * Tryd.prog.bytesOf 31 ≤ reachBytes) : ∃ b A n c l, v = .agg #[.bool b, .slice A n c] ∧ Rd W W.heap.size A n c l := by
  obtain ⟨v0, v1, y0, y1, m, rfl, rfl, rfl, t0, t1⟩ := open_agg2 Tryd.underlying24 (by kernel_rfl) Tryd.cellsInt hok h
  obtain ⟨b, hb0, _⟩ := DataW.trod_bool Tryd.underlying4 t0
  injection hb0 with hb0 _
  subst hb0
  rcases open_ints Tryd.underlying22 Tryd.underlying31 Tryd.cells64 t1 with ⟨hcs, hx⟩ | ⟨a, len', cap', zs, hcs, _, hl, hm, hz, hx, hcell, hwz⟩
  · injection hcs with hcs _
    subst hcs
    exact ⟨b, _, _, _, [], rfl, Rd.nil⟩
  · injection hcs with hcs _
    subst hcs
    subst hx
    simp only [if_true] at hz
    have hreach := hsz _ _ _ rfl
    rw [Tryd.bytes64] at hreach
    simp only [lits, List.length_map, List.length_take, List.length_drop, reachBytes] at hreach
    have hzl : (zs.take len').length = len' := by simp; omega
    refine ⟨b, _, _, _, zs.take len', rfl, hzl, hl, by omega, fun x hx => wf_lm (hwz x (List.mem_of_mem_take hx)), fun hn => ?_⟩
    obtain ⟨b1, off, spot⟩ := a
    have hspot : spot = none := by simpa [Addr.add] using World.cell?_spot (hcell 0 (by omega))
    subst hspot
    have hbW : b1 < W.heap.size := hlt (.cell b1 off) (by rw [List.mem_append]; exact .inr (MemPlace.mem_row.2 ⟨0, by omega, by simp⟩))
    refine ⟨b1, off, rfl, hbW, fun k hk => ?_⟩
    have hk2 : k < zs.length := by omega
    rw [← add_plain, hcell k hk2, List.getElem_take]
    simp [List.getD, List.getElem?_eq_getElem hk2]
end
end Go.Proofs.YtcoidcbbdibnaaaDoor
namespace Go.Proofs.YtcoidcbbdibnaaaDoor
section
open Go.Joins Go.ChangeShapes Go.WideShapes Go.ChangeAt Go.RowKit
set_option linter.unusedVariables false

theorem Tryd.cellsDyad : Tryd.prog.cellsOf 26 = 3 := by kernel_rfl
theorem sized_dmag {H : Type} {ts : List TypeId} {ds : List (DataW H)} (h : (DataW.weightsEach Tryd.prog ts ds).all (· ≤ reachBytes) = true) {j : Nat} {d0 d1 : DataW H} {elems spare : List (DataW H)} (ht : ts[j]? = some 26) (hd : ds[j]? = some (.agg [.agg [d0, .slice elems spare], d1])) :
    (elems.length + spare.length) * Tryd.prog.bytesOf 31 ≤ reachBytes := by
  have := List.all_eq_true.1 h _ (DataW.weights_mem_each ht hd ((elems.length + spare.length) * Tryd.prog.bytesOf 31) (by simp [DataW.weights, DataW.weightsEach, Tryd.underlying26, Tryd.underlying24, Tryd.underlying22]))
  simpa using this
/-- A dyad that came in. -/
theorem open_d {H : Type} {enc : TypeId × Value → H} {W : World} {base : Nat} {v : Value} {d : DataW H} {ps : List MemPlace} (hok : Value.okWide Tryd.prog W .any base 26 v)
    (h : DataW.Trod enc Tryd.prog W 0 (fun _ => true) true 26 v d ps) (hlt : ∀ x ∈ ps, x.block < W.heap.size)
    (hsz : ∀ d0 d1 elems spare, d = .agg [.agg [d0, .slice elems spare], d1] → (elems.length + spare.length) * Tryd.prog.bytesOf 31 ≤ reachBytes) :
    ∃ b A n c l e, v = .agg #[.bool b, .slice A n c, .int .i64 e] ∧ Rd W W.heap.size A n c l ∧ (-9223372036854775808 ≤ e ∧ e ≤ 9223372036854775807) := by
  obtain ⟨cs, rfl, hcs⟩ := okWide_struct Tryd.underlying26 hok
  have hc3 : cs.size = 3 := hcs.trans Tryd.cellsDyad
  obtain ⟨fuel, hf⟩ := h
  obtain ⟨y0, y1, m, hx, _, t0, t1⟩ := trod_struct2 Tryd.underlying26 hf
  simp only [Prod.mk.injEq] at hx
  obtain ⟨rfl, rfl⟩ := hx
  obtain ⟨a0, a1, a2, rfl⟩ : ∃ a0 a1 a2, cs = #[a0, a1, a2] := by
    match cs, hc3 with
    | ⟨[a0, a1, a2]⟩, _ => exact ⟨a0, a1, a2, rfl⟩
  have hcI : Tryd.prog.cellsOf 24 = 2 := Tryd.cellsInt
  have hc1 : Tryd.prog.cellsOf 3 = 1 := by kernel_rfl
  simp only [Value.cells, hcI, hc1, List.drop_zero, List.take_succ_cons, List.take_zero, List.drop_succ_cons] at t0 t1
  obtain ⟨e, he1, he2, hwf⟩ := DataW.trod_int Tryd.underlying3 t1
  obtain ⟨z0, z1, m2, hy, _, s0, s1⟩ := trod_struct2 Tryd.underlying24 t0
  have hcb : Tryd.prog.cellsOf 4 = 1 := by kernel_rfl
  have hcs64 : Tryd.prog.cellsOf 22 = 1 := by kernel_rfl
  simp only [hcb, hcs64, List.drop_zero, List.take_succ_cons, List.take_zero, List.drop_succ_cons] at s0 s1
  obtain ⟨b, hb0, _⟩ := DataW.trod_bool Tryd.underlying4 s0
  injection hb0 with hb0 _
  subst hb0
  injection he1 with he1 _
  subst he1
  subst hy
  have hbd := bounds_int hwf
  rcases open_ints Tryd.underlying22 Tryd.underlying31 Tryd.cells64 s1 with ⟨hcs2, hx⟩ | ⟨a, len', cap', zs, hcs2, _, hl, hm, hz, hx, hcell, hwz⟩
  · injection hcs2 with hcs2 _
    subst hcs2
    exact ⟨b, _, _, _, [], e, rfl, Rd.nil, hbd⟩
  · injection hcs2 with hcs2 _
    subst hcs2
    subst hx
    simp only [if_true] at hz
    have hreach := hsz _ _ _ _ rfl
    rw [Tryd.bytes64] at hreach
    simp only [lits, List.length_map, List.length_take, List.length_drop, reachBytes] at hreach
    have hzl : (zs.take len').length = len' := by simp; omega
    refine ⟨b, _, _, _, zs.take len', e, rfl, ⟨hzl, hl, by omega, fun x hx => wf_lm (hwz x (List.mem_of_mem_take hx)), fun hn => ?_⟩, hbd⟩
    obtain ⟨b1, off, spot⟩ := a
    have hspot : spot = none := by simpa [Addr.add] using World.cell?_spot (hcell 0 (by omega))
    subst hspot
    have hbW : b1 < W.heap.size := hlt (.cell b1 off) (by simp only [List.mem_append]; exact .inl (.inr (MemPlace.mem_row.2 ⟨0, by omega, by simp⟩)))
    refine ⟨b1, off, rfl, hbW, fun k hk => ?_⟩
    have hk2 : k < zs.length := by omega
    rw [← add_plain, hcell k hk2, List.getElem_take]
    simp [List.getD, List.getElem?_eq_getElem hk2]
end
end Go.Proofs.YtcoidcbbdibnaaaDoor
namespace Go.Proofs.YtcoidcbbdibnaaaDoor
section
open Go.Joins Go.ChangeShapes Go.WideShapes Go.ChangeAt Go.RowKit
set_option linter.unusedVariables false
set_option maxRecDepth 100000

theorem Tryd.gTab : Tryd.prog.globalNamed "math/bits.deBruijn64tab" = some 0 := by kernel_rfl
theorem Tryd.tTab : (Tryd.prog.globals[0]?).map (·.type) = some 75 := by kernel_rfl
def laidT {H : Type} : List (String × DataW H) := [("math/bits.deBruijn64tab", Rows.laid_math_bits_deBruijn64tab)]
theorem door_met (os : Go.Os) (args : Array Value) : laidMetH Tryd.prog laidT ((World.doorLaid Tryd.prog 400 os).forCall (fun _ _ => 0) ⟨#[], args, []⟩).memory :=
  laidMetH_of_parts3 (fuel := 8) (laidMet_of_run' 8 (by kernel_rfl) (by kernel_rfl)) (by kernel_rfl) (by kernel_rfl)
theorem cells8 : Tryd.prog.cellsOf 5 = 1 := by kernel_rfl
theorem tab_of_laid {W : World} (h : laidMetH Tryd.prog laidT W) : Tab W := by
  rw [MakeChecks.laidMetH_plain _ _ _ (by kernel_rfl)] at h
  obtain ⟨ps, ⟨g0, t0, cs0, f0, p0, q0, hg0, ht0, hv0, hd0, _, _⟩, _, _⟩ := h
  obtain rfl := Option.some.inj (Tryd.gTab.symm.trans hg0)
  obtain rfl := Option.some.inj (Tryd.tTab.symm.trans ht0)
  obtain ⟨xs, m1, rfl, hx1, hlen, hn3, hel⟩ := DataW.trod_array Tryd.underlying75 hd0
  simp only [Prod.mk.injEq] at hx1
  have hL : (xs.map fun x => x.fst) = Lib.deBruijn64tab.map fun (n : Nat) => DataW.lit (.int .u8 (n : Int)) := by
    have h1 := hx1.1
    have h2 : (Rows.laid_math_bits_deBruijn64tab : DataW Unit) = DataW.agg (Lib.deBruijn64tab.map fun (n : Nat) => DataW.lit (.int .u8 (n : Int))) := by kernel_rfl
    rw [h2] at h1
    injection h1 with h1
    exact h1.symm
  have hlt : Lib.deBruijn64tab.length = 64 := by kernel_rfl
  refine ⟨fun j hj => ?_⟩
  have hj0 := hel j hj
  obtain ⟨x, hx⟩ : ∃ x, xs[j]? = some x := ⟨xs[j], List.getElem?_eq_getElem (by omega)⟩
  rw [hx] at hj0
  obtain ⟨k, e1, e2, _⟩ := DataW.trod_int Tryd.underlying5 hj0
  have h3 := congrArg (fun l => l[j]?) hL
  simp only [List.getElem?_map, hx, Option.map_some, e2] at h3
  rw [List.getElem?_eq_getElem (by omega)] at h3
  simp only [Option.map_some, Option.some.injEq, DataW.lit.injEq, Lit.int.injEq, true_and] at h3
  have h4 := World.var?_cell hg0 hv0 j
  rw [cells8, Nat.mul_one] at e1
  have h5 : cs0.toList[j]? = some (.int .u8 k) := by
    have := congrArg (fun l => l[0]?) e1
    simpa using this
  rw [Array.getElem?_toList] at h5
  rw [h5] at h4
  rw [h4, h3]
  simp [List.getD, hlt, hj]
end
end Go.Proofs.YtcoidcbbdibnaaaDoor
namespace Go.Proofs.YtcoidcbbdibnaaaDoor
section
open Go.RowKit
set_option linter.unusedVariables false

/-- What cut hands back: the same sign and exponent, at most k limbs of its own. -/
def DcPost (w : World) (b : Bool) (l : List Int) (e : Int) (k : Nat) (en : Ending) (w' : World) : Prop := ∃ A n c, en = .returned (.agg #[.bool b, .slice A n c, .int .i64 e]) ∧ Rd w' w'.heap.size A n c (l.take k) ∧ n ≤ k ∧ Below w.heap.size w w'

set_option maxRecDepth 100000 in
set_option maxHeartbeats 2000000 in
theorem Dcut_any {b : Bool} {A : Option Addr} {n c : Nat} {l : List Int} {e : Int} {w : World} (h : Rd w w.heap.size A n c l) (k : Nat) (hk : k ≤ 1000) :
    Calls Tryd.prog 10 #[.agg #[.bool b, .slice A n c, .int .i64 e], .int .i64 k] w (DcPost w b l e k) := by
  have hcap := h.cap
  have hbig := h.big
  have HLEN := Lib.hid h.len
  by_cases hnk : k < n
  · have hkc : k ≤ c := by omega
    have hlt : (k : Int) < n := by omega
    replace h := h.take (show k ≤ n by omega)
    go_enter Tryd.func10, Tryd.ntmps10
    go_wp2_with fail
    have x_a : Dx (w.alloc (.cells #[.bool b, .slice A n c, .int .i64 e] 26)) (w.heap.size) b A n c e := by have := Dx.new w b A n c e; simpa using this
    replace x_a := x_a.alloc (.cells #[.bool false, .slice none 0 0, .int .i64 0] 26)
    have x_r : Dx ((w.alloc (.cells #[.bool b, .slice A n c, .int .i64 e] 26)).alloc (.cells #[.bool false, .slice none 0 0, .int .i64 0] 26)) (w.heap.size + 1) false none 0 0 0 := by have := Dx.new (w.alloc (.cells #[.bool b, .slice A n c, .int .i64 e] 26)) false none 0 0 0; simpa using this
    have hb : Below w.heap.size w ((w.alloc (.cells #[.bool b, .slice A n c, .int .i64 e] 26)).alloc (.cells #[.bool false, .slice none 0 0, .int .i64 0] 26)) := (Below.alloc (Below.alloc (Below.refl w.heap.size w) (by simp) (.cells #[.bool b, .slice A n c, .int .i64 e] 26)) (by simp) (.cells #[.bool false, .slice none 0 0, .int .i64 0] 26))
    generalize (w.alloc (.cells #[.bool b, .slice A n c, .int .i64 e] 26)).alloc (.cells #[.bool false, .slice none 0 0, .int .i64 0] 26) = v1 at *
    replace h := h.go hb
    have q_a0 := x_a.c0; have q_a1 := x_a.c1; have f_a0 := x_a.fr 0; have f_a1 := x_a.fr 1; have q_a2 := x_a.c2; have f_a2 := x_a.fr 2
    have q_r0 := x_r.c0; have q_r1 := x_r.c1; have f_r0 := x_r.fr 0; have f_r1 := x_r.fr 1; have q_r2 := x_r.c2; have f_r2 := x_r.fr 2
    go_wp2_with fail
    have ho := Ow.empty v1 v1.heap.size (Nat.le_refl _)
    have lt_a := x_a.lt; have lt_r := x_r.lt
    have hb2 := below_alloc v1 (.cells #[] 31)
    have h3 := h.go hb2
    have x_a3 := x_a.keep hb2; have x_r3 := x_r.keep hb2
    go_region_held3 (fun w' => w'.cell? ⟨w.heap.size, 0, none⟩ = some (.bool b) ∧ w'.cell? ⟨w.heap.size, 2, none⟩ = some (.int .i64 e))
      (first | exact ⟨x_a.c0, x_a.c2⟩ | exact ⟨x_a3.c0, x_a3.c2⟩ | exact ⟨x_a4.c0, x_a4.c2⟩ | exact ⟨(x_a4.asideD (by omega)).c0, (x_a4.asideD (by omega)).c2⟩ | go_keep)
      ((refine step_all64 (by rfl) _ _ (by rfl) v1.heap.size _ (by rfl) ho.drw A k c _ (l.take k) (by rfl) h3.drw (by omega) (by simp) ?_; intro A1 n1 c1 v9 g1 hb1; have x_a4 := x_a3.drew.below hb1 lt_a; have x_r4 := x_r3.drew.below hb1 lt_r; have q_a0 := x_a4.c0; have q_a2 := x_a4.c2; have q_r0 := x_r4.c0; have q_r1 := x_r4.c1; have q_r2 := x_r4.c2; have f_r0 := x_r4.fr 0; have f_r1 := x_r4.fr 1; have f_r2 := x_r4.fr 2))
    go_wp2
    have zz := x_r4.put b A1 n1 c1 e
    refine bodyPost_ret (v := .agg #[.bool b, .slice A1 n1 c1, .int .i64 e]) (by simp [results, Tryd.results10, go_sem, zz.c0, zz.c1, zz.c2]) rfl ?_
    exact ⟨_, _, _, rfl, g1.sputD x_r4, by have := g1.len; rw [List.length_take] at this; omega, put_belowD ((below_drew (bthen hb hb2)).trans (hb1.mono hb.size)) (by omega) _ _ _⟩
  · have hlt : ¬ (k : Int) < n := by omega
    rw [show l = l.take k from (List.take_of_length_le (by have := HLEN.out; omega)).symm] at h
    go_enter Tryd.func10, Tryd.ntmps10
    go_wp2_with fail
    have x_a : Dx (w.alloc (.cells #[.bool b, .slice A n c, .int .i64 e] 26)) (w.heap.size) b A n c e := by have := Dx.new w b A n c e; simpa using this
    replace x_a := x_a.alloc (.cells #[.bool false, .slice none 0 0, .int .i64 0] 26)
    have x_r : Dx ((w.alloc (.cells #[.bool b, .slice A n c, .int .i64 e] 26)).alloc (.cells #[.bool false, .slice none 0 0, .int .i64 0] 26)) (w.heap.size + 1) false none 0 0 0 := by have := Dx.new (w.alloc (.cells #[.bool b, .slice A n c, .int .i64 e] 26)) false none 0 0 0; simpa using this
    have hb : Below w.heap.size w ((w.alloc (.cells #[.bool b, .slice A n c, .int .i64 e] 26)).alloc (.cells #[.bool false, .slice none 0 0, .int .i64 0] 26)) := (Below.alloc (Below.alloc (Below.refl w.heap.size w) (by simp) (.cells #[.bool b, .slice A n c, .int .i64 e] 26)) (by simp) (.cells #[.bool false, .slice none 0 0, .int .i64 0] 26))
    generalize (w.alloc (.cells #[.bool b, .slice A n c, .int .i64 e] 26)).alloc (.cells #[.bool false, .slice none 0 0, .int .i64 0] 26) = v1 at *
    replace h := h.go hb
    have q_a0 := x_a.c0; have q_a1 := x_a.c1; have f_a0 := x_a.fr 0; have f_a1 := x_a.fr 1; have q_a2 := x_a.c2; have f_a2 := x_a.fr 2
    have q_r0 := x_r.c0; have q_r1 := x_r.c1; have f_r0 := x_r.fr 0; have f_r1 := x_r.fr 1; have q_r2 := x_r.c2; have f_r2 := x_r.fr 2
    go_wp2_with fail
    have ho := Ow.empty v1 v1.heap.size (Nat.le_refl _)
    have lt_a := x_a.lt; have lt_r := x_r.lt
    have hb2 := below_alloc v1 (.cells #[] 31)
    have h3 := h.go hb2
    have x_a3 := x_a.keep hb2; have x_r3 := x_r.keep hb2
    go_region_held3 (fun w' => w'.cell? ⟨w.heap.size, 0, none⟩ = some (.bool b) ∧ w'.cell? ⟨w.heap.size, 2, none⟩ = some (.int .i64 e))
      (first | exact ⟨x_a.c0, x_a.c2⟩ | exact ⟨x_a3.c0, x_a3.c2⟩ | exact ⟨x_a4.c0, x_a4.c2⟩ | exact ⟨(x_a4.asideD (by omega)).c0, (x_a4.asideD (by omega)).c2⟩ | go_keep)
      ((refine step_all64 (by rfl) _ _ (by rfl) v1.heap.size _ (by rfl) ho.drw A n c _ (l.take k) (by rfl) h3.drw (by omega) (by simp) ?_; intro A1 n1 c1 v9 g1 hb1; have x_a4 := x_a3.drew.below hb1 lt_a; have x_r4 := x_r3.drew.below hb1 lt_r; have q_a0 := x_a4.c0; have q_a2 := x_a4.c2; have q_r0 := x_r4.c0; have q_r1 := x_r4.c1; have q_r2 := x_r4.c2; have f_r0 := x_r4.fr 0; have f_r1 := x_r4.fr 1; have f_r2 := x_r4.fr 2))
    go_wp2
    have zz := x_r4.put b A1 n1 c1 e
    refine bodyPost_ret (v := .agg #[.bool b, .slice A1 n1 c1, .int .i64 e]) (by simp [results, Tryd.results10, go_sem, zz.c0, zz.c1, zz.c2]) rfl ?_
    exact ⟨_, _, _, rfl, g1.sputD x_r4, by have := g1.len; rw [List.length_take] at this; omega, put_belowD ((below_drew (bthen hb hb2)).trans (hb1.mono hb.size)) (by omega) _ _ _⟩

theorem Dcut_at {b : Bool} {A : Option Addr} {n c : Nat} {l : List Int} {e : Int} {w : World} (h : Rd w w.heap.size A n c l) (k : Nat) (K : Int) (hK : K = (k : Int)) (hk : k ≤ 1000) :
    Calls Tryd.prog 10 #[.agg #[.bool b, .slice A n c, .int .i64 e], .int .i64 K] w (DcPost w b l e k) := by
  subst hK; exact Dcut_any h k hk
end
end Go.Proofs.YtcoidcbbdibnaaaDoor
namespace Go.Proofs.YtcoidcbbdibnaaaDoor
section
open Go.RowKit
set_option linter.unusedVariables false

theorem tx_neg {N : Nat} (h0 : 0 < N) (h : N < 10) : txL (-(N : Int)) = [45, digC N] := by
  unfold txL; rw [if_pos (by omega), show (-(N : Int)).natAbs = N by omega, decL_small h]; rfl
theorem tx_pos {N : Nat} (h : N < 10) : txL (N : Int) = [digC N] := by
  unfold txL; rw [if_neg (by omega), show (N : Int).natAbs = N by omega, decL_small h]; rfl
theorem tx_m2 : txL (-2) = [45, 50] := tx_neg (N := 2) (by omega) (by omega)
theorem tx_m1 : txL (-1) = [45, 49] := tx_neg (N := 1) (by omega) (by omega)
theorem tx_1 : txL 1 = [49] := tx_pos (N := 1) (by omega)
theorem bl_3 : bl 3 = 2 := by
  have h1 : bl 3 ≤ 2 := bl_le (by omega)
  have h2 : 1 < bl 3 := bl_ge (k := 1) (by omega)
  omega
theorem log_34 : lgI (cM 3 (-2)) (cE (-2)) = -1 := by
  rw [show cM 3 (-2) = 3 from by decide, show cE (-2) = -2 from by decide]
  unfold lgI
  rw [if_neg (by omega), show (3 : Int).natAbs = 3 from rfl, bl_3]
  omega
theorem tx_3 : txL 3 = [51] := tx_pos (N := 3) (by omega)

set_option maxRecDepth 100000 in
set_option maxHeartbeats 1000000 in
theorem of_any (m e : Int) {w : World} (hT : Tab w) (h0 : -9223372036854775808 ≤ m) (h1 : m ≤ 9223372036854775807) :
    Calls Tryd.prog 43 #[.int .i64 m, .int .i64 e] w (OutD w (od (cM m e)) (nE (cM m e) (cE e)) 2) := by
  go_enter Tryd.func43, Tryd.ntmps43
  go_wp2_with fail
  have x_r : Dx (w.alloc (.cells #[.bool false, .slice none 0 0, .int .i64 0] 26)) (w.heap.size) false none 0 0 0 := by have := Dx.new w false none 0 0 0; simpa using this
  have hb : Below w.heap.size w (w.alloc (.cells #[.bool false, .slice none 0 0, .int .i64 0] 26)) := (Below.alloc (Below.refl w.heap.size w) (by simp) (.cells #[.bool false, .slice none 0 0, .int .i64 0] 26))
  generalize w.alloc (.cells #[.bool false, .slice none 0 0, .int .i64 0] 26) = v1 at *
  replace hT := hT.keep hb
  have q_r0 := x_r.c0; have q_r1 := x_r.c1; have f_r0 := x_r.fr 0; have f_r1 := x_r.fr 1; have q_r2 := x_r.c2; have f_r2 := x_r.fr 2
  go_wp2_with fail
  with_reducible refine (ZOf_any m h0 h1).mono ?_
  rintro e v2 ⟨A1, n1, c1, rfl, z1, hb1⟩
  replace x_r := x_r.keep hb1
  replace hT := hT.keep hb1
  replace hb := bthen hb hb1
  clear hb1
  replace q_r0 := x_r.c0; replace q_r1 := x_r.c1; replace f_r0 := x_r.fr 0; replace f_r1 := x_r.fr 1; replace q_r2 := x_r.c2; replace f_r2 := x_r.fr 2
  go_wp2_with fail
  with_reducible refine (DOf_any z1.zr hT 2 (by omega) (by omega)).mono ?_
  rintro e v3 ⟨A2, n2, c2, rfl, z2, hb1⟩
  replace x_r := x_r.keep hb1
  replace hT := hT.keep hb1
  replace z1 := z1.keep hb1
  replace hb := bthen hb hb1
  clear hb1
  replace q_r0 := x_r.c0; replace q_r1 := x_r.c1; replace f_r0 := x_r.fr 0; replace f_r1 := x_r.fr 1; replace q_r2 := x_r.c2; replace f_r2 := x_r.fr 2
  go_wp2
  replace hT := hT.putD (b' := (ngB (od (cM m e)))) (A' := A2) (n' := n2) (c' := c2) (e' := (nE (cM m e) (cE e))) x_r
  replace z1 := z1.putD (b' := (ngB (od (cM m e)))) (A' := A2) (n' := n2) (c' := c2) (e' := (nE (cM m e) (cE e))) x_r
  replace z2 := z2.putD (b' := (ngB (od (cM m e)))) (A' := A2) (n' := n2) (c' := c2) (e' := (nE (cM m e) (cE e))) x_r
  replace hb := put_belowD (g := w.heap.size) hb (by omega) (.bool (ngB (od (cM m e)))) (.slice A2 n2 c2) (.int .i64 (nE (cM m e) (cE e)))
  replace x_r := x_r.put (ngB (od (cM m e))) A2 n2 c2 (nE (cM m e) (cE e))
  clear q_r0 q_r1 f_r0 f_r1 q_r2 f_r2
  generalize ((v3.setCell ⟨w.heap.size, 0, none⟩ (.bool (ngB (od (cM m e))))).setCell ⟨w.heap.size, 1, none⟩ (.slice A2 n2 c2)).setCell ⟨w.heap.size, 2, none⟩ (.int .i64 (nE (cM m e) (cE e))) = v4 at *
  have q_r0 := x_r.c0; have q_r1 := x_r.c1; have f_r0 := x_r.fr 0; have f_r1 := x_r.fr 1; have q_r2 := x_r.c2; have f_r2 := x_r.fr 2
  refine bodyPost_ret (v := .agg #[.bool (ngB (od (cM m e))), .slice A2 n2 c2, .int .i64 (nE (cM m e) (cE e))]) (by simp [results, Tryd.results43, go_sem, q_r0, q_r1, q_r2]) rfl ?_
  exact ⟨_, _, _, rfl, z2, hb⟩

set_option maxRecDepth 100000 in
set_option maxHeartbeats 4000000 in
theorem Dshown_any {w : World} (hT : Tab w) : Calls Tryd.prog 9 #[] w fun e w' => e = .returned (.bool true) ∧ Below w.heap.size w w' := by
  have hb := Below.refl w.heap.size w
  go_enter Tryd.func9, Tryd.ntmps9
  go_wp2_with fail
  with_reducible refine (ZOf_any 12 (by omega) (by omega)).mono ?_
  rintro e v1 ⟨A1, n1, c1, rfl, za, hb1⟩
  replace hT := hT.keep hb1
  replace hb := bthen hb hb1
  clear hb1
  go_wp2_with fail
  with_reducible refine (DNorm_any za.zr hT 2 (by omega) (by omega)).mono ?_
  rintro e v2 ⟨A2, n2, c2, rfl, z_d, hb1⟩
  replace hT := hT.keep hb1
  replace za := za.keep hb1
  replace hb := bthen hb hb1
  clear hb1
  rw [show od (cM 12 (-1)) = 3 from by decide] at z_d ⊢
  rw [show nE (cM 12 (-1)) (cE (-1)) = 1 from by decide]
  clear za
  go_wp2_with fail
  have hb1 := below_alloc v2 (.cells #[.bool (ngB 3), .slice A2 n2 c2, .int .i64 1] 26)
  have x_d := Dx.new v2 (ngB 3) A2 n2 c2 1
  have e_d : w.heap.size ≤ v2.heap.size := hb.size
  replace hT := hT.keep hb1
  replace z_d := z_d.keep hb1
  replace hb := bthen hb hb1
  clear hb1
  generalize v2.alloc (.cells #[.bool (ngB 3), .slice A2 n2 c2, .int .i64 1] 26) = v3 at *
  have q_d0 := x_d.c0; have q_d1 := x_d.c1; have f_d0 := x_d.fr 0; have f_d1 := x_d.fr 1; have q_d2 := x_d.c2; have f_d2 := x_d.fr 2
  go_wp2_with fail
  with_reducible refine (of_any (1) (-1) hT (by omega) (by omega)).mono ?_
  rintro e v5 ⟨A4, n4, c4, rfl, za, hb1⟩
  replace x_d := x_d.keep hb1
  replace hT := hT.keep hb1
  replace z_d := z_d.keep hb1
  replace hb := bthen hb hb1
  clear hb1
  replace q_d0 := x_d.c0; replace q_d1 := x_d.c1; replace f_d0 := x_d.fr 0; replace f_d1 := x_d.fr 1; replace q_d2 := x_d.c2; replace f_d2 := x_d.fr 2
  rw [show od (cM (1) (-1)) = 1 from by decide] at za ⊢
  rw [show nE (cM (1) (-1)) (cE (-1)) = -1 from by decide]
  go_wp2_with fail
  with_reducible refine (of_any (1) (-1) hT (by omega) (by omega)).mono ?_
  rintro e v7 ⟨A6, n6, c6, rfl, zb, hb1⟩
  replace x_d := x_d.keep hb1
  replace hT := hT.keep hb1
  replace z_d := z_d.keep hb1
  replace za := za.keep hb1
  replace hb := bthen hb hb1
  clear hb1
  replace q_d0 := x_d.c0; replace q_d1 := x_d.c1; replace f_d0 := x_d.fr 0; replace f_d1 := x_d.fr 1; replace q_d2 := x_d.c2; replace f_d2 := x_d.fr 2
  rw [show od (cM (1) (-1)) = 1 from by decide] at zb ⊢
  rw [show nE (cM (1) (-1)) (cE (-1)) = -1 from by decide]
  go_wp2_with fail
  with_reducible refine (DAdd_any za.zr zb.zr hT 200 (by omega) (by omega) (by omega)).mono ?_
  rintro e v8 ⟨A3, n3, c3, rfl, z_s, hb1⟩
  replace x_d := x_d.keep hb1
  replace hT := hT.keep hb1
  replace z_d := z_d.keep hb1
  replace za := za.keep hb1
  replace zb := zb.keep hb1
  replace hb := bthen hb hb1
  clear hb1
  replace q_d0 := x_d.c0; replace q_d1 := x_d.c1; replace f_d0 := x_d.fr 0; replace f_d1 := x_d.fr 1; replace q_d2 := x_d.c2; replace f_d2 := x_d.fr 2
  rw [show od (alP 1 (-1) (-1) + alQ 1 (-1) (-1)) = 1 from by decide] at z_s ⊢
  rw [show nE (alP 1 (-1) (-1) + alQ 1 (-1) (-1)) (alE (-1) (-1)) = 0 from by decide]
  clear za zb
  go_wp2_with fail
  have hb1 := below_alloc v8 (.cells #[.bool (ngB 1), .slice A3 n3 c3, .int .i64 0] 26)
  have l_d_s := x_d.lt
  have x_s := Dx.new v8 (ngB 1) A3 n3 c3 0
  have e_s : w.heap.size ≤ v8.heap.size := hb.size
  replace x_d := x_d.keep hb1
  replace hT := hT.keep hb1
  replace z_d := z_d.keep hb1
  replace z_s := z_s.keep hb1
  replace hb := bthen hb hb1
  clear hb1
  replace q_d0 := x_d.c0; replace q_d1 := x_d.c1; replace f_d0 := x_d.fr 0; replace f_d1 := x_d.fr 1; replace q_d2 := x_d.c2; replace f_d2 := x_d.fr 2
  clear q_d0 q_d1 f_d0 f_d1 q_d2 f_d2
  generalize v8.alloc (.cells #[.bool (ngB 1), .slice A3 n3 c3, .int .i64 0] 26) = v9 at *
  have q_d0 := x_d.c0; have q_d1 := x_d.c1; have f_d0 := x_d.fr 0; have f_d1 := x_d.fr 1; have q_d2 := x_d.c2; have f_d2 := x_d.fr 2
  have q_s0 := x_s.c0; have q_s1 := x_s.c1; have f_s0 := x_s.fr 0; have f_s1 := x_s.fr 1; have q_s2 := x_s.c2; have f_s2 := x_s.fr 2
  go_wp2_with fail
  with_reducible refine (of_any (3) (-2) hT (by omega) (by omega)).mono ?_
  rintro e v11 ⟨A10, n10, c10, rfl, za, hb1⟩
  replace x_d := x_d.keep hb1
  replace x_s := x_s.keep hb1
  replace hT := hT.keep hb1
  replace z_d := z_d.keep hb1
  replace z_s := z_s.keep hb1
  replace hb := bthen hb hb1
  clear hb1
  replace q_d0 := x_d.c0; replace q_d1 := x_d.c1; replace f_d0 := x_d.fr 0; replace f_d1 := x_d.fr 1; replace q_d2 := x_d.c2; replace f_d2 := x_d.fr 2
  replace q_s0 := x_s.c0; replace q_s1 := x_s.c1; replace f_s0 := x_s.fr 0; replace f_s1 := x_s.fr 1; replace q_s2 := x_s.c2; replace f_s2 := x_s.fr 2
  rw [show od (cM (3) (-2)) = 3 from by decide] at za ⊢
  rw [show nE (cM (3) (-2)) (cE (-2)) = -2 from by decide]
  go_wp2_with fail
  with_reducible refine (DLog_any za.zr (by omega)).mono ?_
  rintro e v12 ⟨rfl, hb1⟩
  replace x_d := x_d.keep hb1
  replace x_s := x_s.keep hb1
  replace hT := hT.keep hb1
  replace z_d := z_d.keep hb1
  replace z_s := z_s.keep hb1
  replace za := za.keep hb1
  replace hb := bthen hb hb1
  clear hb1
  replace q_d0 := x_d.c0; replace q_d1 := x_d.c1; replace f_d0 := x_d.fr 0; replace f_d1 := x_d.fr 1; replace q_d2 := x_d.c2; replace f_d2 := x_d.fr 2
  replace q_s0 := x_s.c0; replace q_s1 := x_s.c1; replace f_s0 := x_s.fr 0; replace f_s1 := x_s.fr 1; replace q_s2 := x_s.c2; replace f_s2 := x_s.fr 2
  rw [show lgI (cM 3 (-2)) (cE (-2)) = -1 from log_34]
  rw [show lgB (cM 3 (-2)) = true from by decide]
  clear za
  go_wp2_with fail
  with_reducible refine (ZText_any z_d.zr (by omega)).mono ?_
  rintro e v13 ⟨rfl, hb1⟩
  replace x_d := x_d.keep hb1
  replace x_s := x_s.keep hb1
  replace hT := hT.keep hb1
  replace z_d := z_d.keep hb1
  replace z_s := z_s.keep hb1
  replace hb := bthen hb hb1
  clear hb1
  replace q_d0 := x_d.c0; replace q_d1 := x_d.c1; replace f_d0 := x_d.fr 0; replace f_d1 := x_d.fr 1; replace q_d2 := x_d.c2; replace f_d2 := x_d.fr 2
  replace q_s0 := x_s.c0; replace q_s1 := x_s.c1; replace f_s0 := x_s.fr 0; replace f_s1 := x_s.fr 1; replace q_s2 := x_s.c2; replace f_s2 := x_s.fr 2
  rw [tx_3]
  go_wp2_with fail
  with_reducible refine (ZText_any z_s.zr (by omega)).mono ?_
  rintro e v14 ⟨rfl, hb1⟩
  replace x_d := x_d.keep hb1
  replace x_s := x_s.keep hb1
  replace hT := hT.keep hb1
  replace z_d := z_d.keep hb1
  replace z_s := z_s.keep hb1
  replace hb := bthen hb hb1
  clear hb1
  replace q_d0 := x_d.c0; replace q_d1 := x_d.c1; replace f_d0 := x_d.fr 0; replace f_d1 := x_d.fr 1; replace q_d2 := x_d.c2; replace f_d2 := x_d.fr 2
  replace q_s0 := x_s.c0; replace q_s1 := x_s.c1; replace f_s0 := x_s.fr 0; replace f_s1 := x_s.fr 1; replace q_s2 := x_s.c2; replace f_s2 := x_s.fr 2
  rw [tx_1]
  go_wp2_with fail
  with_reducible refine (of_any (-3) (-2) hT (by omega) (by omega)).mono ?_
  rintro e v16 ⟨A15, n15, c15, rfl, za, hb1⟩
  replace x_d := x_d.keep hb1
  replace x_s := x_s.keep hb1
  replace hT := hT.keep hb1
  replace z_d := z_d.keep hb1
  replace z_s := z_s.keep hb1
  replace hb := bthen hb hb1
  clear hb1
  replace q_d0 := x_d.c0; replace q_d1 := x_d.c1; replace f_d0 := x_d.fr 0; replace f_d1 := x_d.fr 1; replace q_d2 := x_d.c2; replace f_d2 := x_d.fr 2
  replace q_s0 := x_s.c0; replace q_s1 := x_s.c1; replace f_s0 := x_s.fr 0; replace f_s1 := x_s.fr 1; replace q_s2 := x_s.c2; replace f_s2 := x_s.fr 2
  rw [show od (cM (-3) (-2)) = (-3) from by decide] at za ⊢
  rw [show nE (cM (-3) (-2)) (cE (-2)) = -2 from by decide]
  go_wp2_with fail
  with_reducible refine (DFloor_any za.zr 1 200 (by omega) (by omega)).mono ?_
  rintro e v17 ⟨A4, n4, c4, rfl, z_f, hb1⟩
  replace x_d := x_d.keep hb1
  replace x_s := x_s.keep hb1
  replace hT := hT.keep hb1
  replace z_d := z_d.keep hb1
  replace z_s := z_s.keep hb1
  replace za := za.keep hb1
  replace hb := bthen hb hb1
  clear hb1
  replace q_d0 := x_d.c0; replace q_d1 := x_d.c1; replace f_d0 := x_d.fr 0; replace f_d1 := x_d.fr 1; replace q_d2 := x_d.c2; replace f_d2 := x_d.fr 2
  replace q_s0 := x_s.c0; replace q_s1 := x_s.c1; replace f_s0 := x_s.fr 0; replace f_s1 := x_s.fr 1; replace q_s2 := x_s.c2; replace f_s2 := x_s.fr 2
  rw [show flI (cM (-3) (-2)) (cE (-2) + li 1) = -2 from by decide] at z_f ⊢
  go_wp2_with fail
  with_reducible refine (ZText_any z_f.zr (by omega)).mono ?_
  rintro e v18 ⟨rfl, hb1⟩
  replace x_d := x_d.keep hb1
  replace x_s := x_s.keep hb1
  replace hT := hT.keep hb1
  replace z_d := z_d.keep hb1
  replace z_s := z_s.keep hb1
  replace za := za.keep hb1
  replace z_f := z_f.keep hb1
  replace hb := bthen hb hb1
  clear hb1
  replace q_d0 := x_d.c0; replace q_d1 := x_d.c1; replace f_d0 := x_d.fr 0; replace f_d1 := x_d.fr 1; replace q_d2 := x_d.c2; replace f_d2 := x_d.fr 2
  replace q_s0 := x_s.c0; replace q_s1 := x_s.c1; replace f_s0 := x_s.fr 0; replace f_s1 := x_s.fr 1; replace q_s2 := x_s.c2; replace f_s2 := x_s.fr 2
  rw [tx_m2]
  clear za z_f
  go_wp2_with fail
  with_reducible refine (of_any (-3) (-2) hT (by omega) (by omega)).mono ?_
  rintro e v20 ⟨A19, n19, c19, rfl, za, hb1⟩
  replace x_d := x_d.keep hb1
  replace x_s := x_s.keep hb1
  replace hT := hT.keep hb1
  replace z_d := z_d.keep hb1
  replace z_s := z_s.keep hb1
  replace hb := bthen hb hb1
  clear hb1
  replace q_d0 := x_d.c0; replace q_d1 := x_d.c1; replace f_d0 := x_d.fr 0; replace f_d1 := x_d.fr 1; replace q_d2 := x_d.c2; replace f_d2 := x_d.fr 2
  replace q_s0 := x_s.c0; replace q_s1 := x_s.c1; replace f_s0 := x_s.fr 0; replace f_s1 := x_s.fr 1; replace q_s2 := x_s.c2; replace f_s2 := x_s.fr 2
  rw [show od (cM (-3) (-2)) = (-3) from by decide] at za ⊢
  rw [show nE (cM (-3) (-2)) (cE (-2)) = -2 from by decide]
  go_wp2_with fail
  with_reducible refine (DCeil_any za.zr 1 200 (by omega) (by omega)).mono ?_
  rintro e v21 ⟨A5, n5, c5, rfl, z_c, hb1⟩
  replace x_d := x_d.keep hb1
  replace x_s := x_s.keep hb1
  replace hT := hT.keep hb1
  replace z_d := z_d.keep hb1
  replace z_s := z_s.keep hb1
  replace za := za.keep hb1
  replace hb := bthen hb hb1
  clear hb1
  replace q_d0 := x_d.c0; replace q_d1 := x_d.c1; replace f_d0 := x_d.fr 0; replace f_d1 := x_d.fr 1; replace q_d2 := x_d.c2; replace f_d2 := x_d.fr 2
  replace q_s0 := x_s.c0; replace q_s1 := x_s.c1; replace f_s0 := x_s.fr 0; replace f_s1 := x_s.fr 1; replace q_s2 := x_s.c2; replace f_s2 := x_s.fr 2
  rw [show -flI (-cM (-3) (-2)) (cE (-2) + li 1) = -1 from by decide] at z_c ⊢
  go_wp2_with fail
  with_reducible refine (ZText_any z_c.zr (by omega)).mono ?_
  rintro e v22 ⟨rfl, hb1⟩
  replace x_d := x_d.keep hb1
  replace x_s := x_s.keep hb1
  replace hT := hT.keep hb1
  replace z_d := z_d.keep hb1
  replace z_s := z_s.keep hb1
  replace za := za.keep hb1
  replace z_c := z_c.keep hb1
  replace hb := bthen hb hb1
  clear hb1
  replace q_d0 := x_d.c0; replace q_d1 := x_d.c1; replace f_d0 := x_d.fr 0; replace f_d1 := x_d.fr 1; replace q_d2 := x_d.c2; replace f_d2 := x_d.fr 2
  replace q_s0 := x_s.c0; replace q_s1 := x_s.c1; replace f_s0 := x_s.fr 0; replace f_s1 := x_s.fr 1; replace q_s2 := x_s.c2; replace f_s2 := x_s.fr 2
  rw [tx_m1]
  go_wp2
  go_ret
  exact ⟨rfl, hb⟩
end
end Go.Proofs.YtcoidcbbdibnaaaDoor
namespace Go.Proofs.YtcoidcbbdibnaaaDoor
section
open Go.RowKit
set_option linter.unusedVariables false

theorem dg_head {N : Nat} (h : 0 < (dg Wd N).length) : (dg Wd N)[0] = ((N % Wd : Nat) : Int) := by
  have h1 := vl_dg Wd2 N
  match hl : dg Wd N, h with
  | x :: l, _ =>
    have h2 := Lim_dg Wd2 N
    rw [hl] at h1 h2
    have h3 := (Lim_cons.1 h2).1
    rw [vl_cons] at h1
    show x = _
    have : N % Wd = x.toNat := by rw [← h1, Nat.add_mul_mod_self_left]; exact Nat.mod_eq_of_lt (by omega)
    rw [this]; omega
theorem low_mask (N : Nat) (s : Nat) (hs : s ≤ 32) : bits .and .u64 ((N % Wd : Nat) : Int) ((2 ^ s - 1 : Nat) : Int) = ((N % 2 ^ s : Nat) : Int) := by
  have h1 : N % Wd < 18446744073709551616 := by have := Nat.mod_lt N (show 0 < Wd from Wd0); rw [Wd_eq] at this ⊢; exact this
  have h2 : 2 ^ s - 1 < 18446744073709551616 := by
    have : 2 ^ s ≤ 2 ^ 32 := Nat.pow_le_pow_right (by omega) hs
    omega
  rw [bits_and_u64_nat _ _ h1 h2, Nat.and_two_pow_sub_one_eq_mod]
  congr 1
  rw [show Wd = 2 ^ s * 2 ^ (64 - s) by rw [← Nat.pow_add, show s + (64 - s) = 64 by omega]; rfl, Nat.mod_mul_right_mod]
/-- A step of plain: so many noughts are cut off. -/
theorem cut_off {M : Int} {s : Nat} (hM : M ≠ 0) (h : M.natAbs % 2 ^ s = 0) : M / 2 ^ s ≠ 0 ∧ od (M / 2 ^ s) = od M ∧ (∀ e, nE (M / 2 ^ s) (e + s) = nE M e) ∧ tz (M / 2 ^ s) + s = tz M ∧ (M / 2 ^ s).natAbs ≤ M.natAbs := by
  have hd : M = M / 2 ^ s * 2 ^ s := by
    have h1 : ((2 ^ s : Nat) : Int) ∣ M := Int.ofNat_dvd_left.2 (Nat.dvd_of_mod_eq_zero h)
    rw [← pow_cast] at h1
    exact (Int.ediv_mul_cancel h1).symm
  generalize M / 2 ^ s = Q at *
  subst hd
  have hQ : Q ≠ 0 := fun h0 => hM (by rw [h0, Int.zero_mul])
  refine ⟨hQ, (od_shl Q s).symm, fun e => (nE_shl Q e s).symm, (tz_shl hQ s).symm, ?_⟩
  rw [Int.natAbs_mul, pow_cast, Int.natAbs_natCast]
  exact Nat.le_mul_of_pos_right _ (Nat.two_pow_pos s)
theorem odd_end {M : Int} (h : M.natAbs % 2 ^ 1 ≠ 0) : od M = M ∧ ∀ e, nE M e = e := by
  obtain ⟨h1, h2⟩ := nf_unique (X := M) (t := 0) (q := M) (by omega) (by omega)
  refine ⟨h2, fun e => ?_⟩
  rw [nE_ne (by omega), h1]; omega
/-- What the loops of plain keep. -/
def PlRel (w : World) (X e : Int) (j : Nat) (ev : Value) (wr : World) : Prop :=
  ∃ M E A n c, ev = .int .i64 E ∧ M ≠ 0 ∧ od M = od X ∧ nE M E = nE X e ∧ e ≤ E ∧ E + tz M = e + tz X ∧ Zn wr A n c M j ∧ Bx wr w.heap.size (ngB M) A n c ∧ Dx wr (w.heap.size + 1) false none 0 0 0 ∧ Below w.heap.size w wr

set_option maxRecDepth 100000 in
set_option maxHeartbeats 8000000 in
theorem plain_any {b : Bool} {A : Option Addr} {n c : Nat} {X : Int} {j : Nat} {w : World} (h : Zr w b A n c X j) (e : Int) (he : -100000 ≤ e ∧ e ≤ 100000) (hj : j ≤ 1000) :
    Calls Tryd.prog 53 #[.agg #[.bool b, .slice A n c], .int .i64 e] w (OutD w (od X) (nE X e) j) := by
  have hsi := h.si
  by_cases hX : X = 0
  · have HX := Lib.hid hX
    go_enter Tryd.func53, Tryd.ntmps53
    go_wp2_with fail
    have x_m : Bx (w.alloc (.cells #[.bool b, .slice A n c] 24)) (w.heap.size) b A n c := by have := Bx.new w b A n c; simpa using this
    replace x_m := x_m.alloc (.cells #[.bool false, .slice none 0 0, .int .i64 0] 26)
    have x_r : Dx ((w.alloc (.cells #[.bool b, .slice A n c] 24)).alloc (.cells #[.bool false, .slice none 0 0, .int .i64 0] 26)) (w.heap.size + 1) false none 0 0 0 := by have := Dx.new (w.alloc (.cells #[.bool b, .slice A n c] 24)) false none 0 0 0; simpa using this
    have hb : Below w.heap.size w ((w.alloc (.cells #[.bool b, .slice A n c] 24)).alloc (.cells #[.bool false, .slice none 0 0, .int .i64 0] 26)) := (Below.alloc (Below.alloc (Below.refl w.heap.size w) (by simp) (.cells #[.bool b, .slice A n c] 24)) (by simp) (.cells #[.bool false, .slice none 0 0, .int .i64 0] 26))
    generalize (w.alloc (.cells #[.bool b, .slice A n c] 24)).alloc (.cells #[.bool false, .slice none 0 0, .int .i64 0] 26) = v1 at *
    replace h := h.keep hb
    have q_m0 := x_m.c0; have q_m1 := x_m.c1; have f_m0 := x_m.fr 0; have f_m1 := x_m.fr 1
    have q_r0 := x_r.c0; have q_r1 := x_r.c1; have f_r0 := x_r.fr 0; have f_r1 := x_r.fr 1; have q_r2 := x_r.c2; have f_r2 := x_r.fr 2
    go_wp2_with fail
    with_reducible refine (RNormZ_any h j (Nat.le_refl _) (by omega)).mono ?_
    rintro e v2 ⟨A1, n1, c1, rfl, z1, hb1⟩
    replace x_m := x_m.keep hb1
    replace x_r := x_r.keep hb1
    replace h := h.keep hb1
    replace hb := bthen hb hb1
    clear hb1
    replace q_m0 := x_m.c0; replace q_m1 := x_m.c1; replace f_m0 := x_m.fr 0; replace f_m1 := x_m.fr 1
    replace q_r0 := x_r.c0; replace q_r1 := x_r.c1; replace f_r0 := x_r.fr 0; replace f_r1 := x_r.fr 1; replace q_r2 := x_r.c2; replace f_r2 := x_r.fr 2
    obtain rfl := (zn_len z1).1 HX.out
    have hng : ngB X = false := by rw [HX.out]; rfl
    rw [hng]
    clear hng hX
    have x3 := x_m.put false A1 0 c1; have r3 := x_r.aside (b' := false) (A' := A1) (n' := 0) (c' := c1) (g := w.heap.size) (by omega)
    have y0 := x3.c0; have y1 := x3.c1; have y2 := r3.fr 0; have y3 := r3.fr 1; have y4 := r3.fr 2; have y5 := r3.c0; have y6 := r3.c1; have y7 := r3.c2
    go_wp2
    have zz := r3.put false none 0 0 0
    refine bodyPost_ret (v := .agg #[.bool false, .slice none 0 0, .int .i64 0]) (by simp [results, Tryd.results53, go_sem, zz.c0, zz.c1, zz.c2]) rfl ?_
    exact OutD.nil0 j HX.out (put_belowD (put_below hb (by omega) _ _) (by omega) _ _ _)
  · have htz : tz X < 64 * j := (show tz X < 64 * j from Nat.lt_of_not_le fun hc => by
      have h1 := congrArg Int.natAbs (tz_spec hX).1
      rw [Int.natAbs_mul, pow_cast, Int.natAbs_natCast] at h1
      have h2 : 0 < (od X).natAbs := by have := od_ne hX; omega
      have h3 : 2 ^ tz X ≤ X.natAbs := by rw [h1]; exact Nat.le_mul_of_pos_left _ h2
      have h4 : X.natAbs < 2 ^ (64 * j) := by unfold Si Sm at hsi; rw [Nat.pow_mul]; exact hsi
      have h5 : 2 ^ (64 * j) ≤ 2 ^ tz X := Nat.pow_le_pow_right (by omega) hc
      omega)
    have HX := Lib.hid hX; have HSI := Lib.hid hsi; clear hX hsi
    go_enter Tryd.func53, Tryd.ntmps53
    go_wp2_with fail
    have x_m : Bx (w.alloc (.cells #[.bool b, .slice A n c] 24)) (w.heap.size) b A n c := by have := Bx.new w b A n c; simpa using this
    replace x_m := x_m.alloc (.cells #[.bool false, .slice none 0 0, .int .i64 0] 26)
    have x_r : Dx ((w.alloc (.cells #[.bool b, .slice A n c] 24)).alloc (.cells #[.bool false, .slice none 0 0, .int .i64 0] 26)) (w.heap.size + 1) false none 0 0 0 := by have := Dx.new (w.alloc (.cells #[.bool b, .slice A n c] 24)) false none 0 0 0; simpa using this
    have hb : Below w.heap.size w ((w.alloc (.cells #[.bool b, .slice A n c] 24)).alloc (.cells #[.bool false, .slice none 0 0, .int .i64 0] 26)) := (Below.alloc (Below.alloc (Below.refl w.heap.size w) (by simp) (.cells #[.bool b, .slice A n c] 24)) (by simp) (.cells #[.bool false, .slice none 0 0, .int .i64 0] 26))
    generalize (w.alloc (.cells #[.bool b, .slice A n c] 24)).alloc (.cells #[.bool false, .slice none 0 0, .int .i64 0] 26) = v1 at *
    replace h := h.keep hb
    have q_m0 := x_m.c0; have q_m1 := x_m.c1; have f_m0 := x_m.fr 0; have f_m1 := x_m.fr 1
    have q_r0 := x_r.c0; have q_r1 := x_r.c1; have f_r0 := x_r.fr 0; have f_r1 := x_r.fr 1; have q_r2 := x_r.c2; have f_r2 := x_r.fr 2
    go_wp2_with fail
    with_reducible refine (RNormZ_any h j (Nat.le_refl _) (by omega)).mono ?_
    rintro e v2 ⟨A1, n1, c1, rfl, z1, hb1⟩
    replace x_m := x_m.keep hb1
    replace x_r := x_r.keep hb1
    replace h := h.keep hb1
    replace hb := bthen hb hb1
    clear hb1
    replace q_m0 := x_m.c0; replace q_m1 := x_m.c1; replace f_m0 := x_m.fr 0; replace f_m1 := x_m.fr 1
    replace q_r0 := x_r.c0; replace q_r1 := x_r.c1; replace f_r0 := x_r.fr 0; replace f_r1 := x_r.fr 1; replace q_r2 := x_r.c2; replace f_r2 := x_r.fr 2
    have hn1 := (zn_len z1).2 HX.out
    have hnb : ((n1 : Int) == 0) = false := by simp; omega
    clear h
    go_wp2_with fail
    replace x_r := x_r.aside (b' := (ngB X)) (A' := A1) (n' := n1) (c' := c1) (g := w.heap.size) (by omega)
    replace z1 := z1.put (b' := (ngB X)) (A' := A1) (n' := n1) (c' := c1) x_m
    replace hb := put_below (g := w.heap.size) hb (by omega) (.bool (ngB X)) (.slice A1 n1 c1)
    replace x_m := x_m.put (ngB X) A1 n1 c1
    clear q_m0 q_m1 f_m0 f_m1 q_r0 q_r1 f_r0 f_r1 q_r2 f_r2
    generalize (v2.setCell ⟨w.heap.size, 0, none⟩ (.bool (ngB X))).setCell ⟨w.heap.size, 1, none⟩ (.slice A1 n1 c1) = v3 at *
    have q_m0 := x_m.c0; have q_m1 := x_m.c1; have f_m0 := x_m.fr 0; have f_m1 := x_m.fr 1
    have q_r0 := x_r.c0; have q_r1 := x_r.c1; have f_r0 := x_r.fr 0; have f_r1 := x_r.fr 1; have q_r2 := x_r.c2; have f_r2 := x_r.fr 2
    go_loopw [1] (fun ev wr => PlRel w X e j ev wr) (fun ev _ => (e + tz X - intOf ev).toNat)
    case atStart => exact ⟨X, e, A1, n1, c1, rfl, HX.out, rfl, rfl, Int.le_refl _, rfl, z1, x_m, x_r, hb⟩
    case round =>
      clear z1 x_m x_r hb q_m0 q_m1 f_m0 f_m1 q_r0 q_r1 f_r0 f_r1 q_r2 f_r2 hn1 hnb
      obtain ⟨M, E, A5, n5, c5, rfl, hM, ho, hE, hle, htm, z5, x_m, x_r, hb⟩ := hrel
      have hn5 := (zn_len z5).2 hM
      have hcp := z5.1.cap
      obtain ⟨b5, o5, rfl, hb5, hc5⟩ := z5.1.at_ hn5
      have hl5 := z5.1.len
      have hc0 := hc5 0 (by omega)
      rw [dg_head (by omega), Nat.add_zero] at hc0
      have hmk := low_mask M.natAbs 16 (by omega)
      rw [show ((2 ^ 16 - 1 : Nat) : Int) = 65535 from rfl] at hmk
      clear hc5 hl5
      have HSM : Hid (Si M j) := Lib.hid (show Sm M.natAbs j from by have := z5.1.lim; have h7 := vl_lt this; rw [vl_dg Wd2, z5.1.len] at h7; exact Nat.lt_of_lt_of_le h7 (Nat.pow_le_pow_right Wd0 z5.2))
      generalize hlm : ((M.natAbs % Wd : Nat) : Int) = lm at *
      clear hlm
      have HMK := Lib.hid hmk
      by_cases hz : M.natAbs % 2 ^ 16 = 0
      · obtain ⟨k1, k2, k3, k4, k5⟩ := cut_off hM hz
        have hm0 : (bits .and .u64 lm 65535 == 0) = true := by rw [HMK.out, hz]; rfl
        have hsc : sc 16 = 16 := by decide
        have HSC := Lib.hid hsc; clear hsc hmk hz
        have HK : Hid (M / 2 ^ 16 ≠ 0 ∧ od (M / 2 ^ 16) = od X ∧ nE (M / 2 ^ 16) (E + 16) = nE X e ∧ E + 16 + tz (M / 2 ^ 16) = e + tz X ∧ Si (M / 2 ^ 16) j) := Lib.hid ⟨k1, k2.trans ho, (k3 E).trans hE, by omega, Nat.lt_of_le_of_lt k5 HSM.out⟩
        clear k1 k2 k3 k4 k5 ho hE
        have wE : IntKind.i64.wrap (E + 16) = E + 16 := IntWalk.i64_in _ ⟨by omega, by omega⟩
        generalize hQ : M / 2 ^ 16 = Q at *
        have HQ := Lib.hid hQ; clear hQ
        have q_m0 := x_m.c0; have q_m1 := x_m.c1; have f_m0 := x_m.fr 0; have f_m1 := x_m.fr 1
        have q_r0 := x_r.c0; have q_r1 := x_r.c1; have f_r0 := x_r.fr 0; have f_r1 := x_r.fr 1; have q_r2 := x_r.c2; have f_r2 := x_r.fr 2
        go_wp2_with fail
        with_reducible refine (RShrZ_any z5.zr 16 2000 (by omega) (by omega)).mono ?_
        rintro e v4 ⟨A6, n6, c6, rfl, z6, hb1⟩
        replace x_m := x_m.keep hb1
        replace x_r := x_r.keep hb1
        replace z5 := z5.keep hb1
        replace hb := bthen hb hb1
        clear hb1
        replace q_m0 := x_m.c0; replace q_m1 := x_m.c1; replace f_m0 := x_m.fr 0; replace f_m1 := x_m.fr 1
        replace q_r0 := x_r.c0; replace q_r1 := x_r.c1; replace f_r0 := x_r.fr 0; replace f_r1 := x_r.fr 1; replace q_r2 := x_r.c2; replace f_r2 := x_r.fr 2
        rw [HSC.out, HQ.out] at z6 ⊢
        replace z6 := z6.slim HK.out.2.2.2.2
        go_wp2
        replace x_r := x_r.aside (b' := (ngB Q)) (A' := A6) (n' := n6) (c' := c6) (g := w.heap.size) (by omega)
        replace z5 := z5.put (b' := (ngB Q)) (A' := A6) (n' := n6) (c' := c6) x_m
        replace z6 := z6.put (b' := (ngB Q)) (A' := A6) (n' := n6) (c' := c6) x_m
        replace hb := put_below (g := w.heap.size) hb (by omega) (.bool (ngB Q)) (.slice A6 n6 c6)
        replace x_m := x_m.put (ngB Q) A6 n6 c6
        clear q_m0 q_m1 f_m0 f_m1 q_r0 q_r1 f_r0 f_r1 q_r2 f_r2
        generalize (v4.setCell ⟨w.heap.size, 0, none⟩ (.bool (ngB Q))).setCell ⟨w.heap.size, 1, none⟩ (.slice A6 n6 c6) = v5 at *
        have q_m0 := x_m.c0; have q_m1 := x_m.c1; have f_m0 := x_m.fr 0; have f_m1 := x_m.fr 1
        have q_r0 := x_r.c0; have q_r1 := x_r.c1; have f_r0 := x_r.fr 0; have f_r1 := x_r.fr 1; have q_r2 := x_r.c2; have f_r2 := x_r.fr 2
        go_roundw
        case rel => exact ⟨Q, E + 16, A6, n6, c6, rfl, HK.out.1, HK.out.2.1, HK.out.2.2.1, by omega, HK.out.2.2.2.1, z6, x_m, x_r, hb⟩
        case measure => have := HK.out.2.2.2.1; simp [intOf]; omega
      · have hm0 : (bits .and .u64 lm 65535 == 0) = false := by rw [HMK.out, beq_eq_false_iff_ne]; omega
        clear hz hmk HMK
        have q_m0 := x_m.c0; have q_m1 := x_m.c1; have f_m0 := x_m.fr 0; have f_m1 := x_m.fr 1
        have q_r0 := x_r.c0; have q_r1 := x_r.c1; have f_r0 := x_r.fr 0; have f_r1 := x_r.fr 1; have q_r2 := x_r.c2; have f_r2 := x_r.fr 2
        go_wp2_with fail
        go_loopw [1] (fun ev wr => PlRel w X e j ev wr) (fun ev _ => (e + tz X - intOf ev).toNat)
        case atStart => exact ⟨M, E, _, n5, c5, rfl, hM, ho, hE, hle, htm, z5, x_m, x_r, hb⟩
        case round =>
          clear z5 x_m x_r hb q_m0 q_m1 f_m0 f_m1 q_r0 q_r1 f_r0 f_r1 q_r2 f_r2 hn5 hcp hc0 hM ho hE hle htm hm0 HSM hb5
          obtain ⟨M, E, A5, n5, c5, rfl, hM, ho, hE, hle, htm, z5, x_m, x_r, hb⟩ := hrel
          have hn5 := (zn_len z5).2 hM
          have hcp := z5.1.cap
          obtain ⟨b5, o5, rfl, hb5, hc5⟩ := z5.1.at_ hn5
          have hl5 := z5.1.len
          have hc0 := hc5 0 (by omega)
          rw [dg_head (by omega), Nat.add_zero] at hc0
          have hmk := low_mask M.natAbs 1 (by omega)
          rw [show ((2 ^ 1 - 1 : Nat) : Int) = 1 from rfl] at hmk
          clear hc5 hl5
          have HSM : Hid (Si M j) := Lib.hid (show Sm M.natAbs j from by have := z5.1.lim; have h7 := vl_lt this; rw [vl_dg Wd2, z5.1.len] at h7; exact Nat.lt_of_lt_of_le h7 (Nat.pow_le_pow_right Wd0 z5.2))
          generalize hlm : ((M.natAbs % Wd : Nat) : Int) = lm at *
          clear hlm
          have HMK := Lib.hid hmk
          by_cases hz : M.natAbs % 2 ^ 1 = 0
          · obtain ⟨k1, k2, k3, k4, k5⟩ := cut_off hM hz
            have hm0 : (bits .and .u64 lm 1 == 0) = true := by rw [HMK.out, hz]; rfl
            have hsc : sc 1 = 1 := by decide
            have HSC := Lib.hid hsc; clear hsc hmk hz
            have HK : Hid (M / 2 ^ 1 ≠ 0 ∧ od (M / 2 ^ 1) = od X ∧ nE (M / 2 ^ 1) (E + 1) = nE X e ∧ E + 1 + tz (M / 2 ^ 1) = e + tz X ∧ Si (M / 2 ^ 1) j) := Lib.hid ⟨k1, k2.trans ho, (k3 E).trans hE, by omega, Nat.lt_of_le_of_lt k5 HSM.out⟩
            clear k1 k2 k3 k4 k5 ho hE
            have wE : IntKind.i64.wrap (E + 1) = E + 1 := IntWalk.i64_in _ ⟨by omega, by omega⟩
            generalize hQ : M / 2 ^ 1 = Q at *
            have HQ := Lib.hid hQ; clear hQ
            have q_m0 := x_m.c0; have q_m1 := x_m.c1; have f_m0 := x_m.fr 0; have f_m1 := x_m.fr 1
            have q_r0 := x_r.c0; have q_r1 := x_r.c1; have f_r0 := x_r.fr 0; have f_r1 := x_r.fr 1; have q_r2 := x_r.c2; have f_r2 := x_r.fr 2
            go_wp2_with fail
            with_reducible refine (RShrZ_any z5.zr 1 2000 (by omega) (by omega)).mono ?_
            rintro e v4 ⟨A6, n6, c6, rfl, z6, hb1⟩
            replace x_m := x_m.keep hb1
            replace x_r := x_r.keep hb1
            replace z5 := z5.keep hb1
            replace hb := bthen hb hb1
            clear hb1
            replace q_m0 := x_m.c0; replace q_m1 := x_m.c1; replace f_m0 := x_m.fr 0; replace f_m1 := x_m.fr 1
            replace q_r0 := x_r.c0; replace q_r1 := x_r.c1; replace f_r0 := x_r.fr 0; replace f_r1 := x_r.fr 1; replace q_r2 := x_r.c2; replace f_r2 := x_r.fr 2
            rw [HSC.out, HQ.out] at z6 ⊢
            replace z6 := z6.slim HK.out.2.2.2.2
            go_wp2
            replace x_r := x_r.aside (b' := (ngB Q)) (A' := A6) (n' := n6) (c' := c6) (g := w.heap.size) (by omega)
            replace z5 := z5.put (b' := (ngB Q)) (A' := A6) (n' := n6) (c' := c6) x_m
            replace z6 := z6.put (b' := (ngB Q)) (A' := A6) (n' := n6) (c' := c6) x_m
            replace hb := put_below (g := w.heap.size) hb (by omega) (.bool (ngB Q)) (.slice A6 n6 c6)
            replace x_m := x_m.put (ngB Q) A6 n6 c6
            clear q_m0 q_m1 f_m0 f_m1 q_r0 q_r1 f_r0 f_r1 q_r2 f_r2
            generalize (v4.setCell ⟨w.heap.size, 0, none⟩ (.bool (ngB Q))).setCell ⟨w.heap.size, 1, none⟩ (.slice A6 n6 c6) = v5 at *
            have q_m0 := x_m.c0; have q_m1 := x_m.c1; have f_m0 := x_m.fr 0; have f_m1 := x_m.fr 1
            have q_r0 := x_r.c0; have q_r1 := x_r.c1; have f_r0 := x_r.fr 0; have f_r1 := x_r.fr 1; have q_r2 := x_r.c2; have f_r2 := x_r.fr 2
            go_roundw
            case rel => exact ⟨Q, E + 1, A6, n6, c6, rfl, HK.out.1, HK.out.2.1, HK.out.2.2.1, by omega, HK.out.2.2.2.1, z6, x_m, x_r, hb⟩
            case measure => have := HK.out.2.2.2.1; simp [intOf]; omega
          · have hm0 : (bits .and .u64 lm 1 == 0) = false := by rw [HMK.out, beq_eq_false_iff_ne]; omega
            obtain ⟨k1, k2⟩ := odd_end hz
            have HF : Hid (od X = M ∧ nE X e = E) := Lib.hid ⟨ho.symm.trans k1, hE.symm.trans (k2 E)⟩
            clear hz hmk HMK k1 k2 ho hE
            have q_m0 := x_m.c0; have q_m1 := x_m.c1; have f_m0 := x_m.fr 0; have f_m1 := x_m.fr 1
            have q_r0 := x_r.c0; have q_r1 := x_r.c1; have f_r0 := x_r.fr 0; have f_r1 := x_r.fr 1; have q_r2 := x_r.c2; have f_r2 := x_r.fr 2
            go_wp2
            replace x_m := x_m.asideD (b' := (ngB M)) (A' := (some ⟨b5, o5, none⟩)) (n' := n5) (c' := c5) (e' := E) (g := w.heap.size + 1) (by omega)
            replace z5 := z5.putD (b' := (ngB M)) (A' := (some ⟨b5, o5, none⟩)) (n' := n5) (c' := c5) (e' := E) x_r
            replace hb := put_belowD (g := w.heap.size + 1) hb (by omega) (.bool (ngB M)) (.slice (some ⟨b5, o5, none⟩) n5 c5) (.int .i64 E)
            replace x_r := x_r.put (ngB M) (some ⟨b5, o5, none⟩) n5 c5 E
            clear q_m0 q_m1 f_m0 f_m1 q_r0 q_r1 f_r0 f_r1 q_r2 f_r2
            generalize ((wr.setCell ⟨w.heap.size + 1, 0, none⟩ (.bool (ngB M))).setCell ⟨w.heap.size + 1, 1, none⟩ (.slice (some ⟨b5, o5, none⟩) n5 c5)).setCell ⟨w.heap.size + 1, 2, none⟩ (.int .i64 E) = v4 at *
            have q_m0 := x_m.c0; have q_m1 := x_m.c1; have f_m0 := x_m.fr 0; have f_m1 := x_m.fr 1
            have q_r0 := x_r.c0; have q_r1 := x_r.c1; have f_r0 := x_r.fr 0; have f_r1 := x_r.fr 1; have q_r2 := x_r.c2; have f_r2 := x_r.fr 2
            refine bodyPost_ret (v := .agg #[.bool (ngB M), .slice (some ⟨b5, o5, none⟩) n5 c5, .int .i64 E]) (by simp [results, Tryd.results53, go_sem, q_r0, q_r1, q_r2]) rfl ?_
            exact ⟨_, _, _, by rw [HF.out.1, HF.out.2], by rw [HF.out.1]; exact z5, hb⟩
end
end Go.Proofs.YtcoidcbbdibnaaaDoor
namespace Go.Proofs.YtcoidcbbdibnaaaDoor
section
open Go.RowKit
set_option linter.unusedVariables false

theorem near_any (n : Int) (w : World) : Calls Tryd.prog 62 #[.int .i64 n] w fun e w' => e = .returned (.int .i64 (li n)) ∧ Below w.heap.size w w' := by
  unfold li
  go_enter Tryd.func62, Tryd.ntmps62
  go_wp2
  all_goals go_ret
  all_goals exact ⟨ret_i64 (by omega), Below.refl _ _⟩
theorem raise2 {X n : Int} (h0 : 8000 ≤ n) (h1 : n ≤ 16000) : X * 2 ^ sc 8000 * 2 ^ sc (n - 8000) = X * 2 ^ n.toNat := by
  rw [Int.mul_assoc, ← Int.pow_add]
  congr 2
  unfold sc; omega
theorem raise1 {X n : Int} (h0 : 0 ≤ n) (h1 : n ≤ 8000) : X * 2 ^ sc n = X * 2 ^ n.toNat := by
  congr 2
  unfold sc; omega
theorem nE_rng {X e : Int} {j : Nat} (h : Si X j) (he : -4000 ≤ e ∧ e ≤ 4000) : -4000 ≤ nE X e ∧ nE X e ≤ 4000 + 64 * j := by
  have hb := nE_le (e := e) (Bt.of_si h) (lo := -4000) (hi := 4000 + 64 * j) (by omega) (by omega) (by omega) (by omega)
  exact hb
theorem Si.counted {X e : Int} {j : Nat} (h : Si X j) : Si (cM X e) j := by
  unfold cM; split
  · exact h
  · unfold Si Sm; exact Nat.pow_pos Wd0
theorem tz_neg (X : Int) : tz (-X) = tz X := by unfold tz; rw [Int.natAbs_neg]
theorem nE_neg (X e : Int) : nE (-X) e = nE X e := by unfold nE; rw [tz_neg]; by_cases h : X = 0 <;> simp [h]
/-- Rounded down, a normal form is the number. -/
theorem flI_nf {X e q : Int} : flI (od X) (nE X e + q) = flI X (e + q) := by
  by_cases h : X = 0
  · subst h
    rw [od_zero]
    unfold flI
    split <;> split <;> simp
  · have hX := (tz_spec h).1
    rw [nE_ne h]
    generalize od X = O at *
    generalize tz X = t at *
    subst hX
    unfold flI
    by_cases h1 : e + q < 0
    · rw [if_pos h1]
      by_cases h2 : e + t + q < 0
      · rw [if_pos h2]
        rw [show (-(e + q)).toNat = (-(e + t + q)).toNat + t by omega, Int.pow_add]
        exact (Int.mul_ediv_mul_of_pos_left _ _ (two_pow_pos t)).symm
      · rw [if_neg h2, show t = (e + t + q).toNat + (-(e + q)).toNat by omega, Int.pow_add, ← Int.mul_assoc]
        rw [Int.mul_ediv_cancel _ (by have := two_pow_pos (-(e + q)).toNat; omega)]
        congr 2; omega
    · rw [if_neg h1, if_neg (by omega), Int.mul_assoc, ← Int.pow_add]
      congr 2; omega

set_option maxRecDepth 100000 in
set_option maxHeartbeats 1000000 in
theorem counts_any {b : Bool} {A : Option Addr} {n c : Nat} {X e : Int} {j : Nat} {w : World} (h : Zr w b A n c X j) (hj : j ≤ 1000) :
    Calls Tryd.prog 47 #[.agg #[.bool b, .slice A n c, .int .i64 e]] w (OutD w (od (cM X e)) (nE (cM X e) (cE e)) j) := by
  by_cases hr : -4000 ≤ e ∧ e ≤ 4000
  · obtain ⟨hM, hE⟩ := c_yes (X := X) hr
    rw [hM, hE]
    clear hM hE
    have h1 : ¬ e < -4000 := by omega
    have h2 : ¬ 4000 < e := by omega
    go_enter Tryd.func47, Tryd.ntmps47
    go_wp2_with fail
    have x_a : Dx (w.alloc (.cells #[.bool b, .slice A n c, .int .i64 e] 26)) (w.heap.size) b A n c e := by have := Dx.new w b A n c e; simpa using this
    replace x_a := x_a.alloc (.cells #[.bool false, .slice none 0 0, .int .i64 0] 26)
    have x_r : Dx ((w.alloc (.cells #[.bool b, .slice A n c, .int .i64 e] 26)).alloc (.cells #[.bool false, .slice none 0 0, .int .i64 0] 26)) (w.heap.size + 1) false none 0 0 0 := by have := Dx.new (w.alloc (.cells #[.bool b, .slice A n c, .int .i64 e] 26)) false none 0 0 0; simpa using this
    have hb : Below w.heap.size w ((w.alloc (.cells #[.bool b, .slice A n c, .int .i64 e] 26)).alloc (.cells #[.bool false, .slice none 0 0, .int .i64 0] 26)) := (Below.alloc (Below.alloc (Below.refl w.heap.size w) (by simp) (.cells #[.bool b, .slice A n c, .int .i64 e] 26)) (by simp) (.cells #[.bool false, .slice none 0 0, .int .i64 0] 26))
    generalize (w.alloc (.cells #[.bool b, .slice A n c, .int .i64 e] 26)).alloc (.cells #[.bool false, .slice none 0 0, .int .i64 0] 26) = v1 at *
    replace h := h.keep hb
    have q_a0 := x_a.c0; have q_a1 := x_a.c1; have f_a0 := x_a.fr 0; have f_a1 := x_a.fr 1; have q_a2 := x_a.c2; have f_a2 := x_a.fr 2
    have q_r0 := x_r.c0; have q_r1 := x_r.c1; have f_r0 := x_r.fr 0; have f_r1 := x_r.fr 1; have q_r2 := x_r.c2; have f_r2 := x_r.fr 2
    go_wp2_with fail
    with_reducible refine (plain_any h e (by omega) hj).mono ?_
    rintro e v2 ⟨A1, n1, c1, rfl, z1, hb1⟩
    replace x_a := x_a.keep hb1
    replace x_r := x_r.keep hb1
    replace h := h.keep hb1
    replace hb := bthen hb hb1
    clear hb1
    replace q_a0 := x_a.c0; replace q_a1 := x_a.c1; replace f_a0 := x_a.fr 0; replace f_a1 := x_a.fr 1; replace q_a2 := x_a.c2; replace f_a2 := x_a.fr 2
    replace q_r0 := x_r.c0; replace q_r1 := x_r.c1; replace f_r0 := x_r.fr 0; replace f_r1 := x_r.fr 1; replace q_r2 := x_r.c2; replace f_r2 := x_r.fr 2
    go_wp2
    replace x_a := x_a.asideD (b' := (ngB (od X))) (A' := A1) (n' := n1) (c' := c1) (e' := (nE X e)) (g := w.heap.size + 1) (by omega)
    replace h := h.putD (b' := (ngB (od X))) (A' := A1) (n' := n1) (c' := c1) (e' := (nE X e)) x_r
    replace z1 := z1.putD (b' := (ngB (od X))) (A' := A1) (n' := n1) (c' := c1) (e' := (nE X e)) x_r
    replace hb := put_belowD (g := w.heap.size + 1) hb (by omega) (.bool (ngB (od X))) (.slice A1 n1 c1) (.int .i64 (nE X e))
    replace x_r := x_r.put (ngB (od X)) A1 n1 c1 (nE X e)
    clear q_a0 q_a1 f_a0 f_a1 q_a2 f_a2 q_r0 q_r1 f_r0 f_r1 q_r2 f_r2
    generalize ((v2.setCell ⟨w.heap.size + 1, 0, none⟩ (.bool (ngB (od X)))).setCell ⟨w.heap.size + 1, 1, none⟩ (.slice A1 n1 c1)).setCell ⟨w.heap.size + 1, 2, none⟩ (.int .i64 (nE X e)) = v3 at *
    have q_a0 := x_a.c0; have q_a1 := x_a.c1; have f_a0 := x_a.fr 0; have f_a1 := x_a.fr 1; have q_a2 := x_a.c2; have f_a2 := x_a.fr 2
    have q_r0 := x_r.c0; have q_r1 := x_r.c1; have f_r0 := x_r.fr 0; have f_r1 := x_r.fr 1; have q_r2 := x_r.c2; have f_r2 := x_r.fr 2
    refine bodyPost_ret (v := .agg #[.bool (ngB (od X)), .slice A1 n1 c1, .int .i64 (nE X e)]) (by simp [results, Tryd.results47, go_sem, q_r0, q_r1, q_r2]) rfl ?_
    exact ⟨_, _, _, rfl, z1, hb⟩
  · obtain ⟨hM, hE⟩ := c_no (X := X) hr
    rw [hM, hE]
    clear hM hE
    rcases (show e < -4000 ∨ (¬ e < -4000 ∧ 4000 < e) by omega) with h1 | ⟨h1, h2⟩
    · skip
      go_enter Tryd.func47, Tryd.ntmps47
      go_wp2
      refine bodyPost_ret (v := .agg #[.bool false, .slice none 0 0, .int .i64 0]) (by simp [results, Tryd.results47, go_sem]) rfl ?_
      exact OutD.nil0 j rfl (below_alloc2 _ _ _)
    · skip
      go_enter Tryd.func47, Tryd.ntmps47
      go_wp2
      refine bodyPost_ret (v := .agg #[.bool false, .slice none 0 0, .int .i64 0]) (by simp [results, Tryd.results47, go_sem]) rfl ?_
      exact OutD.nil0 j rfl (below_alloc2 _ _ _)

set_option maxRecDepth 100000 in
set_option maxHeartbeats 2000000 in
theorem raised_any {b : Bool} {A : Option Addr} {n c : Nat} {X : Int} {j : Nat} {w : World} (h : Zr w b A n c X j) (q : Int) (hq : 0 ≤ q ∧ q ≤ 16000) (k : Nat) (hk : j + 256 ≤ k) (hj : k ≤ 100000) :
    Calls Tryd.prog 55 #[.agg #[.bool b, .slice A n c], .int .i64 q] w (OutZ w (X * 2 ^ q.toNat) k) := by
  by_cases hq0 : q ≤ 8000
  · have hv := raise1 (X := X) hq.1 hq0
    rw [← hv]
    clear hv
    have hng : ¬ 8000 < q := by omega
    go_enter Tryd.func55, Tryd.ntmps55
    go_wp2_with fail
    have x_m : Bx (w.alloc (.cells #[.bool b, .slice A n c] 24)) (w.heap.size) b A n c := by have := Bx.new w b A n c; simpa using this
    replace x_m := x_m.alloc (.cells #[.bool false, .slice none 0 0] 24)
    have x_r : Bx ((w.alloc (.cells #[.bool b, .slice A n c] 24)).alloc (.cells #[.bool false, .slice none 0 0] 24)) (w.heap.size + 1) false none 0 0 := by have := Bx.new (w.alloc (.cells #[.bool b, .slice A n c] 24)) false none 0 0; simpa using this
    have hb : Below w.heap.size w ((w.alloc (.cells #[.bool b, .slice A n c] 24)).alloc (.cells #[.bool false, .slice none 0 0] 24)) := (Below.alloc (Below.alloc (Below.refl w.heap.size w) (by simp) (.cells #[.bool b, .slice A n c] 24)) (by simp) (.cells #[.bool false, .slice none 0 0] 24))
    generalize (w.alloc (.cells #[.bool b, .slice A n c] 24)).alloc (.cells #[.bool false, .slice none 0 0] 24) = v1 at *
    replace h := h.keep hb
    have q_m0 := x_m.c0; have q_m1 := x_m.c1; have f_m0 := x_m.fr 0; have f_m1 := x_m.fr 1
    have q_r0 := x_r.c0; have q_r1 := x_r.c1; have f_r0 := x_r.fr 0; have f_r1 := x_r.fr 1
    refine wp_loop_rounds 1 ?_
    rw [rounds_succ]
    go_wp2_with fail
    with_reducible refine (RShlZ_any h q k (by omega) hj).mono ?_
    rintro e v2 ⟨A3, n3, c3, rfl, z3, hb1⟩
    replace x_m := x_m.keep hb1
    replace x_r := x_r.keep hb1
    replace h := h.keep hb1
    replace hb := bthen hb hb1
    clear hb1
    replace q_m0 := x_m.c0; replace q_m1 := x_m.c1; replace f_m0 := x_m.fr 0; replace f_m1 := x_m.fr 1
    replace q_r0 := x_r.c0; replace q_r1 := x_r.c1; replace f_r0 := x_r.fr 0; replace f_r1 := x_r.fr 1
    go_wp2
    replace x_m := x_m.aside (b' := (ngB (X * 2 ^ sc q))) (A' := A3) (n' := n3) (c' := c3) (g := w.heap.size + 1) (by omega)
    replace h := h.put (b' := (ngB (X * 2 ^ sc q))) (A' := A3) (n' := n3) (c' := c3) x_r
    replace z3 := z3.put (b' := (ngB (X * 2 ^ sc q))) (A' := A3) (n' := n3) (c' := c3) x_r
    replace hb := put_below (g := w.heap.size + 1) hb (by omega) (.bool (ngB (X * 2 ^ sc q))) (.slice A3 n3 c3)
    replace x_r := x_r.put (ngB (X * 2 ^ sc q)) A3 n3 c3
    clear q_m0 q_m1 f_m0 f_m1 q_r0 q_r1 f_r0 f_r1
    generalize (v2.setCell ⟨w.heap.size + 1, 0, none⟩ (.bool (ngB (X * 2 ^ sc q)))).setCell ⟨w.heap.size + 1, 1, none⟩ (.slice A3 n3 c3) = v3 at *
    have q_m0 := x_m.c0; have q_m1 := x_m.c1; have f_m0 := x_m.fr 0; have f_m1 := x_m.fr 1
    have q_r0 := x_r.c0; have q_r1 := x_r.c1; have f_r0 := x_r.fr 0; have f_r1 := x_r.fr 1
    refine bodyPost_ret (v := .agg #[.bool (ngB (X * 2 ^ sc q)), .slice A3 n3 c3]) (by simp [results, Tryd.results55, go_sem, q_r0, q_r1]) rfl ?_
    exact ⟨_, _, _, rfl, z3, hb⟩
  · have hv := raise2 (X := X) (n := q) (by omega) hq.2
    rw [← hv]
    clear hv
    have hng : 8000 < q := by omega
    have hng2 : ¬ 8000 < q - 8000 := by omega
    generalize hP : X * 2 ^ sc 8000 = P at *
    have HP := Lib.hid hP; clear hP
    have wq : IntKind.i64.wrap (q - 8000) = q - 8000 := IntWalk.i64_in _ ⟨by omega, by omega⟩
    go_enter Tryd.func55, Tryd.ntmps55
    go_wp2_with fail
    have x_m : Bx (w.alloc (.cells #[.bool b, .slice A n c] 24)) (w.heap.size) b A n c := by have := Bx.new w b A n c; simpa using this
    replace x_m := x_m.alloc (.cells #[.bool false, .slice none 0 0] 24)
    have x_r : Bx ((w.alloc (.cells #[.bool b, .slice A n c] 24)).alloc (.cells #[.bool false, .slice none 0 0] 24)) (w.heap.size + 1) false none 0 0 := by have := Bx.new (w.alloc (.cells #[.bool b, .slice A n c] 24)) false none 0 0; simpa using this
    have hb : Below w.heap.size w ((w.alloc (.cells #[.bool b, .slice A n c] 24)).alloc (.cells #[.bool false, .slice none 0 0] 24)) := (Below.alloc (Below.alloc (Below.refl w.heap.size w) (by simp) (.cells #[.bool b, .slice A n c] 24)) (by simp) (.cells #[.bool false, .slice none 0 0] 24))
    generalize (w.alloc (.cells #[.bool b, .slice A n c] 24)).alloc (.cells #[.bool false, .slice none 0 0] 24) = v1 at *
    replace h := h.keep hb
    have q_m0 := x_m.c0; have q_m1 := x_m.c1; have f_m0 := x_m.fr 0; have f_m1 := x_m.fr 1
    have q_r0 := x_r.c0; have q_r1 := x_r.c1; have f_r0 := x_r.fr 0; have f_r1 := x_r.fr 1
    refine wp_loop_rounds 2 ?_
    rw [rounds_succ]
    go_wp2_with fail
    with_reducible refine (RShlZ_any h 8000 (k - 128) (by omega) (by omega)).mono ?_
    rintro e v2 ⟨A2, n2, c2, rfl, z2, hb1⟩
    replace x_m := x_m.keep hb1
    replace x_r := x_r.keep hb1
    replace h := h.keep hb1
    replace hb := bthen hb hb1
    clear hb1
    replace q_m0 := x_m.c0; replace q_m1 := x_m.c1; replace f_m0 := x_m.fr 0; replace f_m1 := x_m.fr 1
    replace q_r0 := x_r.c0; replace q_r1 := x_r.c1; replace f_r0 := x_r.fr 0; replace f_r1 := x_r.fr 1
    rw [HP.out] at z2 ⊢
    clear h
    go_wp2_with fail
    replace x_r := x_r.aside (b' := (ngB P)) (A' := A2) (n' := n2) (c' := c2) (g := w.heap.size) (by omega)
    replace z2 := z2.put (b' := (ngB P)) (A' := A2) (n' := n2) (c' := c2) x_m
    replace hb := put_below (g := w.heap.size) hb (by omega) (.bool (ngB P)) (.slice A2 n2 c2)
    replace x_m := x_m.put (ngB P) A2 n2 c2
    clear q_m0 q_m1 f_m0 f_m1 q_r0 q_r1 f_r0 f_r1
    generalize (v2.setCell ⟨w.heap.size, 0, none⟩ (.bool (ngB P))).setCell ⟨w.heap.size, 1, none⟩ (.slice A2 n2 c2) = v3 at *
    have q_m0 := x_m.c0; have q_m1 := x_m.c1; have f_m0 := x_m.fr 0; have f_m1 := x_m.fr 1
    have q_r0 := x_r.c0; have q_r1 := x_r.c1; have f_r0 := x_r.fr 0; have f_r1 := x_r.fr 1
    rw [rounds_succ]
    go_wp2_with fail
    with_reducible refine (RShlZ_any z2.zr (q - 8000) k (by omega) hj).mono ?_
    rintro e v4 ⟨A3, n3, c3, rfl, z3, hb1⟩
    replace x_m := x_m.keep hb1
    replace x_r := x_r.keep hb1
    replace z2 := z2.keep hb1
    replace hb := bthen hb hb1
    clear hb1
    replace q_m0 := x_m.c0; replace q_m1 := x_m.c1; replace f_m0 := x_m.fr 0; replace f_m1 := x_m.fr 1
    replace q_r0 := x_r.c0; replace q_r1 := x_r.c1; replace f_r0 := x_r.fr 0; replace f_r1 := x_r.fr 1
    go_wp2
    replace x_m := x_m.aside (b' := (ngB (P * 2 ^ sc (q - 8000)))) (A' := A3) (n' := n3) (c' := c3) (g := w.heap.size + 1) (by omega)
    replace z2 := z2.put (b' := (ngB (P * 2 ^ sc (q - 8000)))) (A' := A3) (n' := n3) (c' := c3) x_r
    replace z3 := z3.put (b' := (ngB (P * 2 ^ sc (q - 8000)))) (A' := A3) (n' := n3) (c' := c3) x_r
    replace hb := put_below (g := w.heap.size + 1) hb (by omega) (.bool (ngB (P * 2 ^ sc (q - 8000)))) (.slice A3 n3 c3)
    replace x_r := x_r.put (ngB (P * 2 ^ sc (q - 8000))) A3 n3 c3
    clear q_m0 q_m1 f_m0 f_m1 q_r0 q_r1 f_r0 f_r1
    generalize (v4.setCell ⟨w.heap.size + 1, 0, none⟩ (.bool (ngB (P * 2 ^ sc (q - 8000))))).setCell ⟨w.heap.size + 1, 1, none⟩ (.slice A3 n3 c3) = v5 at *
    have q_m0 := x_m.c0; have q_m1 := x_m.c1; have f_m0 := x_m.fr 0; have f_m1 := x_m.fr 1
    have q_r0 := x_r.c0; have q_r1 := x_r.c1; have f_r0 := x_r.fr 0; have f_r1 := x_r.fr 1
    refine bodyPost_ret (v := .agg #[.bool (ngB (P * 2 ^ sc (q - 8000))), .slice A3 n3 c3]) (by simp [results, Tryd.results55, go_sem, q_r0, q_r1]) rfl ?_
    exact ⟨_, _, _, rfl, z3, hb⟩

set_option maxRecDepth 100000 in
set_option maxHeartbeats 1000000 in
theorem lower_any {b : Bool} {A : Option Addr} {n c : Nat} {X : Int} {j : Nat} {w : World} (h : Zr w b A n c X j) (q : Int) (hq : -8000 ≤ q ∧ q ≤ 16000) (k : Nat) (hk : j + 256 ≤ k) (hj : k ≤ 100000) :
    Calls Tryd.prog 65 #[.agg #[.bool b, .slice A n c], .int .i64 q] w (OutZ w (flI X q) k) := by
  by_cases hq0 : q < 0
  · have hv : X / 2 ^ sc (-q) = flI X q := by unfold flI; rw [if_pos hq0, sc_toNat (by omega) (by omega)]
    have hge : ¬ 0 ≤ q := by omega
    have HV := Lib.hid hv; clear hv
    go_enter Tryd.func65, Tryd.ntmps65
    go_wp2_with fail
    have x_m : Bx (w.alloc (.cells #[.bool b, .slice A n c] 24)) (w.heap.size) b A n c := by have := Bx.new w b A n c; simpa using this
    replace x_m := x_m.alloc (.cells #[.bool false, .slice none 0 0] 24)
    have x_r : Bx ((w.alloc (.cells #[.bool b, .slice A n c] 24)).alloc (.cells #[.bool false, .slice none 0 0] 24)) (w.heap.size + 1) false none 0 0 := by have := Bx.new (w.alloc (.cells #[.bool b, .slice A n c] 24)) false none 0 0; simpa using this
    have hb : Below w.heap.size w ((w.alloc (.cells #[.bool b, .slice A n c] 24)).alloc (.cells #[.bool false, .slice none 0 0] 24)) := (Below.alloc (Below.alloc (Below.refl w.heap.size w) (by simp) (.cells #[.bool b, .slice A n c] 24)) (by simp) (.cells #[.bool false, .slice none 0 0] 24))
    generalize (w.alloc (.cells #[.bool b, .slice A n c] 24)).alloc (.cells #[.bool false, .slice none 0 0] 24) = v1 at *
    replace h := h.keep hb
    have q_m0 := x_m.c0; have q_m1 := x_m.c1; have f_m0 := x_m.fr 0; have f_m1 := x_m.fr 1
    have q_r0 := x_r.c0; have q_r1 := x_r.c1; have f_r0 := x_r.fr 0; have f_r1 := x_r.fr 1
    go_wp2_with fail
    with_reducible refine (RShrZ_any h (-q) k (by omega) hj).mono ?_
    rintro e v2 ⟨A3, n3, c3, rfl, z3, hb1⟩
    replace x_m := x_m.keep hb1
    replace x_r := x_r.keep hb1
    replace h := h.keep hb1
    replace hb := bthen hb hb1
    clear hb1
    replace q_m0 := x_m.c0; replace q_m1 := x_m.c1; replace f_m0 := x_m.fr 0; replace f_m1 := x_m.fr 1
    replace q_r0 := x_r.c0; replace q_r1 := x_r.c1; replace f_r0 := x_r.fr 0; replace f_r1 := x_r.fr 1
    rw [HV.out] at z3 ⊢
    go_wp2
    replace x_m := x_m.aside (b' := (ngB (flI X q))) (A' := A3) (n' := n3) (c' := c3) (g := w.heap.size + 1) (by omega)
    replace h := h.put (b' := (ngB (flI X q))) (A' := A3) (n' := n3) (c' := c3) x_r
    replace z3 := z3.put (b' := (ngB (flI X q))) (A' := A3) (n' := n3) (c' := c3) x_r
    replace hb := put_below (g := w.heap.size + 1) hb (by omega) (.bool (ngB (flI X q))) (.slice A3 n3 c3)
    replace x_r := x_r.put (ngB (flI X q)) A3 n3 c3
    clear q_m0 q_m1 f_m0 f_m1 q_r0 q_r1 f_r0 f_r1
    generalize (v2.setCell ⟨w.heap.size + 1, 0, none⟩ (.bool (ngB (flI X q)))).setCell ⟨w.heap.size + 1, 1, none⟩ (.slice A3 n3 c3) = v3 at *
    have q_m0 := x_m.c0; have q_m1 := x_m.c1; have f_m0 := x_m.fr 0; have f_m1 := x_m.fr 1
    have q_r0 := x_r.c0; have q_r1 := x_r.c1; have f_r0 := x_r.fr 0; have f_r1 := x_r.fr 1
    refine bodyPost_ret (v := .agg #[.bool (ngB (flI X q)), .slice A3 n3 c3]) (by simp [results, Tryd.results65, go_sem, q_r0, q_r1]) rfl ?_
    exact ⟨_, _, _, rfl, z3, hb⟩
  · have hv : X * 2 ^ q.toNat = flI X q := by unfold flI; rw [if_neg hq0]
    have hge : 0 ≤ q := by omega
    have HV := Lib.hid hv; clear hv
    go_enter Tryd.func65, Tryd.ntmps65
    go_wp2_with fail
    have x_m : Bx (w.alloc (.cells #[.bool b, .slice A n c] 24)) (w.heap.size) b A n c := by have := Bx.new w b A n c; simpa using this
    replace x_m := x_m.alloc (.cells #[.bool false, .slice none 0 0] 24)
    have x_r : Bx ((w.alloc (.cells #[.bool b, .slice A n c] 24)).alloc (.cells #[.bool false, .slice none 0 0] 24)) (w.heap.size + 1) false none 0 0 := by have := Bx.new (w.alloc (.cells #[.bool b, .slice A n c] 24)) false none 0 0; simpa using this
    have hb : Below w.heap.size w ((w.alloc (.cells #[.bool b, .slice A n c] 24)).alloc (.cells #[.bool false, .slice none 0 0] 24)) := (Below.alloc (Below.alloc (Below.refl w.heap.size w) (by simp) (.cells #[.bool b, .slice A n c] 24)) (by simp) (.cells #[.bool false, .slice none 0 0] 24))
    generalize (w.alloc (.cells #[.bool b, .slice A n c] 24)).alloc (.cells #[.bool false, .slice none 0 0] 24) = v1 at *
    replace h := h.keep hb
    have q_m0 := x_m.c0; have q_m1 := x_m.c1; have f_m0 := x_m.fr 0; have f_m1 := x_m.fr 1
    have q_r0 := x_r.c0; have q_r1 := x_r.c1; have f_r0 := x_r.fr 0; have f_r1 := x_r.fr 1
    go_wp2_with fail
    with_reducible refine (raised_any h q (by omega) k hk hj).mono ?_
    rintro e v2 ⟨A3, n3, c3, rfl, z3, hb1⟩
    replace x_m := x_m.keep hb1
    replace x_r := x_r.keep hb1
    replace h := h.keep hb1
    replace hb := bthen hb hb1
    clear hb1
    replace q_m0 := x_m.c0; replace q_m1 := x_m.c1; replace f_m0 := x_m.fr 0; replace f_m1 := x_m.fr 1
    replace q_r0 := x_r.c0; replace q_r1 := x_r.c1; replace f_r0 := x_r.fr 0; replace f_r1 := x_r.fr 1
    rw [HV.out] at z3 ⊢
    go_wp2
    replace x_m := x_m.aside (b' := (ngB (flI X q))) (A' := A3) (n' := n3) (c' := c3) (g := w.heap.size + 1) (by omega)
    replace h := h.put (b' := (ngB (flI X q))) (A' := A3) (n' := n3) (c' := c3) x_r
    replace z3 := z3.put (b' := (ngB (flI X q))) (A' := A3) (n' := n3) (c' := c3) x_r
    replace hb := put_below (g := w.heap.size + 1) hb (by omega) (.bool (ngB (flI X q))) (.slice A3 n3 c3)
    replace x_r := x_r.put (ngB (flI X q)) A3 n3 c3
    clear q_m0 q_m1 f_m0 f_m1 q_r0 q_r1 f_r0 f_r1
    generalize (v2.setCell ⟨w.heap.size + 1, 0, none⟩ (.bool (ngB (flI X q)))).setCell ⟨w.heap.size + 1, 1, none⟩ (.slice A3 n3 c3) = v3 at *
    have q_m0 := x_m.c0; have q_m1 := x_m.c1; have f_m0 := x_m.fr 0; have f_m1 := x_m.fr 1
    have q_r0 := x_r.c0; have q_r1 := x_r.c1; have f_r0 := x_r.fr 0; have f_r1 := x_r.fr 1
    refine bodyPost_ret (v := .agg #[.bool (ngB (flI X q)), .slice A3 n3 c3]) (by simp [results, Tryd.results65, go_sem, q_r0, q_r1]) rfl ?_
    exact ⟨_, _, _, rfl, z3, hb⟩

set_option maxRecDepth 100000 in
set_option maxHeartbeats 2000000 in
theorem RFloor_any {b : Bool} {A : Option Addr} {n c : Nat} {X e : Int} {j : Nat} {w : World} (h : Zr w b A n c X j) (q : Int) (k : Nat) (hk : j + 256 ≤ k) (hj : j ≤ 12) (hk2 : k ≤ 100000) :
    Calls Tryd.prog 34 #[.agg #[.bool b, .slice A n c, .int .i64 e], .int .i64 q] w (OutZ w (flI (cM X e) (cE e + li q)) k) := by
  have hl := li_in q
  have hr := nE_rng (h.si.counted (e := e)) (cE_in e)
  have hwr : IntKind.i64.wrap (nE (cM X e) (cE e) + li q) = nE (cM X e) (cE e) + li q := IntWalk.i64_in _ ⟨by omega, by omega⟩
  have hv := flI_nf (X := cM X e) (e := cE e) (q := li q)
  have HV := Lib.hid hv; clear hv
  go_enter Tryd.func34, Tryd.ntmps34
  go_wp2_with fail
  have x_a : Dx (w.alloc (.cells #[.bool b, .slice A n c, .int .i64 e] 26)) (w.heap.size) b A n c e := by have := Dx.new w b A n c e; simpa using this
  replace x_a := x_a.alloc (.cells #[.bool false, .slice none 0 0] 24)
  have x_r : Bx ((w.alloc (.cells #[.bool b, .slice A n c, .int .i64 e] 26)).alloc (.cells #[.bool false, .slice none 0 0] 24)) (w.heap.size + 1) false none 0 0 := by have := Bx.new (w.alloc (.cells #[.bool b, .slice A n c, .int .i64 e] 26)) false none 0 0; simpa using this
  have hb : Below w.heap.size w ((w.alloc (.cells #[.bool b, .slice A n c, .int .i64 e] 26)).alloc (.cells #[.bool false, .slice none 0 0] 24)) := (Below.alloc (Below.alloc (Below.refl w.heap.size w) (by simp) (.cells #[.bool b, .slice A n c, .int .i64 e] 26)) (by simp) (.cells #[.bool false, .slice none 0 0] 24))
  generalize (w.alloc (.cells #[.bool b, .slice A n c, .int .i64 e] 26)).alloc (.cells #[.bool false, .slice none 0 0] 24) = v1 at *
  replace h := h.keep hb
  have q_a0 := x_a.c0; have q_a1 := x_a.c1; have f_a0 := x_a.fr 0; have f_a1 := x_a.fr 1; have q_a2 := x_a.c2; have f_a2 := x_a.fr 2
  have q_r0 := x_r.c0; have q_r1 := x_r.c1; have f_r0 := x_r.fr 0; have f_r1 := x_r.fr 1
  go_wp2_with fail
  with_reducible refine (counts_any h (by omega)).mono ?_
  rintro e v2 ⟨A1, n1, c1, rfl, zc, hb1⟩
  replace x_a := x_a.keep hb1
  replace x_r := x_r.keep hb1
  replace h := h.keep hb1
  replace hb := bthen hb hb1
  clear hb1
  replace q_a0 := x_a.c0; replace q_a1 := x_a.c1; replace f_a0 := x_a.fr 0; replace f_a1 := x_a.fr 1; replace q_a2 := x_a.c2; replace f_a2 := x_a.fr 2
  replace q_r0 := x_r.c0; replace q_r1 := x_r.c1; replace f_r0 := x_r.fr 0; replace f_r1 := x_r.fr 1
  clear h
  go_wp2_with fail
  replace x_r := x_r.asideD (b' := (ngB (od (cM X e)))) (A' := A1) (n' := n1) (c' := c1) (e' := (nE (cM X e) (cE e))) (g := w.heap.size) (by omega)
  replace zc := zc.putD (b' := (ngB (od (cM X e)))) (A' := A1) (n' := n1) (c' := c1) (e' := (nE (cM X e) (cE e))) x_a
  replace hb := put_belowD (g := w.heap.size) hb (by omega) (.bool (ngB (od (cM X e)))) (.slice A1 n1 c1) (.int .i64 (nE (cM X e) (cE e)))
  replace x_a := x_a.put (ngB (od (cM X e))) A1 n1 c1 (nE (cM X e) (cE e))
  clear q_a0 q_a1 f_a0 f_a1 q_a2 f_a2 q_r0 q_r1 f_r0 f_r1
  generalize ((v2.setCell ⟨w.heap.size, 0, none⟩ (.bool (ngB (od (cM X e))))).setCell ⟨w.heap.size, 1, none⟩ (.slice A1 n1 c1)).setCell ⟨w.heap.size, 2, none⟩ (.int .i64 (nE (cM X e) (cE e))) = v3 at *
  have q_a0 := x_a.c0; have q_a1 := x_a.c1; have f_a0 := x_a.fr 0; have f_a1 := x_a.fr 1; have q_a2 := x_a.c2; have f_a2 := x_a.fr 2
  have q_r0 := x_r.c0; have q_r1 := x_r.c1; have f_r0 := x_r.fr 0; have f_r1 := x_r.fr 1
  go_region_held3 (fun w' => w'.cell? ⟨w.heap.size, 0, none⟩ = some (.bool (ngB (od (cM X e)))) ∧ w'.cell? ⟨w.heap.size, 1, none⟩ = some (.slice A1 n1 c1) ∧ w'.cell? ⟨w.heap.size, 2, none⟩ = some (.int .i64 (nE (cM X e) (cE e))))
    (first | (with_reducible exact ⟨x_a.c0, x_a.c1, x_a.c2⟩) | (with_reducible exact ⟨(x_a.aside (by omega)).c0, (x_a.aside (by omega)).c1, (x_a.aside (by omega)).c2⟩) | (with_reducible exact ⟨((x_a.aside (by omega)).aside (by omega)).c0, ((x_a.aside (by omega)).aside (by omega)).c1, ((x_a.aside (by omega)).aside (by omega)).c2⟩) | (with_reducible exact ⟨(x_a.asideD (by omega)).c0, (x_a.asideD (by omega)).c1, (x_a.asideD (by omega)).c2⟩) | (with_reducible exact ⟨((x_a.asideD (by omega)).asideD (by omega)).c0, ((x_a.asideD (by omega)).asideD (by omega)).c1, ((x_a.asideD (by omega)).asideD (by omega)).c2⟩) | go_keep)
    (first | (go_at_call 62; (with_reducible refine (near_any q _).mono ?_); rintro e v4 ⟨rfl, hb1⟩; replace hb1 := undrew hb1; replace x_a := x_a.keep hb1; replace x_r := x_r.keep hb1; replace zc := zc.keep hb1; replace hb := bthen hb hb1; clear hb1; replace q_a0 := x_a.c0; replace q_a1 := x_a.c1; replace f_a0 := x_a.fr 0; replace f_a1 := x_a.fr 1; replace q_a2 := x_a.c2; replace f_a2 := x_a.fr 2; replace q_r0 := x_r.c0; replace q_r1 := x_r.c1; replace f_r0 := x_r.fr 0; replace f_r1 := x_r.fr 1) | (go_at_call 65; (with_reducible refine (lower_any zc.zr (nE (cM X e) (cE e) + li q) (by omega) k hk hk2).mono ?_); rintro e v5 ⟨A3, n3, c3, rfl, z3, hb1⟩; replace x_a := x_a.keep hb1; replace x_r := x_r.keep hb1; replace zc := zc.keep hb1; replace hb := bthen hb hb1; clear hb1; replace q_a0 := x_a.c0; replace q_a1 := x_a.c1; replace f_a0 := x_a.fr 0; replace f_a1 := x_a.fr 1; replace q_a2 := x_a.c2; replace f_a2 := x_a.fr 2; replace q_r0 := x_r.c0; replace q_r1 := x_r.c1; replace f_r0 := x_r.fr 0; replace f_r1 := x_r.fr 1; rw [HV.out] at z3 ⊢))
  go_wp2
  replace x_a := x_a.aside (b' := (ngB (flI (cM X e) (cE e + li q)))) (A' := A3) (n' := n3) (c' := c3) (g := w.heap.size + 1) (by omega)
  replace zc := zc.put (b' := (ngB (flI (cM X e) (cE e + li q)))) (A' := A3) (n' := n3) (c' := c3) x_r
  replace z3 := z3.put (b' := (ngB (flI (cM X e) (cE e + li q)))) (A' := A3) (n' := n3) (c' := c3) x_r
  replace hb := put_below (g := w.heap.size + 1) hb (by omega) (.bool (ngB (flI (cM X e) (cE e + li q)))) (.slice A3 n3 c3)
  replace x_r := x_r.put (ngB (flI (cM X e) (cE e + li q))) A3 n3 c3
  clear q_a0 q_a1 f_a0 f_a1 q_a2 f_a2 q_r0 q_r1 f_r0 f_r1
  generalize (v5.setCell ⟨w.heap.size + 1, 0, none⟩ (.bool (ngB (flI (cM X e) (cE e + li q))))).setCell ⟨w.heap.size + 1, 1, none⟩ (.slice A3 n3 c3) = v6 at *
  have q_a0 := x_a.c0; have q_a1 := x_a.c1; have f_a0 := x_a.fr 0; have f_a1 := x_a.fr 1; have q_a2 := x_a.c2; have f_a2 := x_a.fr 2
  have q_r0 := x_r.c0; have q_r1 := x_r.c1; have f_r0 := x_r.fr 0; have f_r1 := x_r.fr 1
  refine bodyPost_ret (v := .agg #[.bool (ngB (flI (cM X e) (cE e + li q))), .slice A3 n3 c3]) (by simp [results, Tryd.results34, go_sem, q_r0, q_r1]) rfl ?_
  exact ⟨_, _, _, rfl, z3, hb⟩

set_option maxRecDepth 100000 in
set_option maxHeartbeats 2000000 in
theorem RCeil_any {b : Bool} {A : Option Addr} {n c : Nat} {X e : Int} {j : Nat} {w : World} (h : Zr w b A n c X j) (q : Int) (k : Nat) (hk : j + 256 ≤ k) (hj : j ≤ 12) (hk2 : k ≤ 100000) :
    Calls Tryd.prog 36 #[.agg #[.bool b, .slice A n c, .int .i64 e], .int .i64 q] w (OutZ w (-flI (-cM X e) (cE e + li q)) k) := by
  have hl := li_in q
  have hr := nE_rng (h.si.counted (e := e)) (cE_in e)
  have hwr : IntKind.i64.wrap (nE (cM X e) (cE e) + li q) = nE (cM X e) (cE e) + li q := IntWalk.i64_in _ ⟨by omega, by omega⟩
  have hv : flI (-od (cM X e)) (nE (cM X e) (cE e) + li q) = flI (-cM X e) (cE e + li q) := by rw [← od_neg, ← nE_neg]; exact flI_nf
  have HV := Lib.hid hv; clear hv
  go_enter Tryd.func36, Tryd.ntmps36
  go_wp2_with fail
  have x_a : Dx (w.alloc (.cells #[.bool b, .slice A n c, .int .i64 e] 26)) (w.heap.size) b A n c e := by have := Dx.new w b A n c e; simpa using this
  replace x_a := x_a.alloc (.cells #[.bool false, .slice none 0 0] 24)
  have x_r : Bx ((w.alloc (.cells #[.bool b, .slice A n c, .int .i64 e] 26)).alloc (.cells #[.bool false, .slice none 0 0] 24)) (w.heap.size + 1) false none 0 0 := by have := Bx.new (w.alloc (.cells #[.bool b, .slice A n c, .int .i64 e] 26)) false none 0 0; simpa using this
  have hb : Below w.heap.size w ((w.alloc (.cells #[.bool b, .slice A n c, .int .i64 e] 26)).alloc (.cells #[.bool false, .slice none 0 0] 24)) := (Below.alloc (Below.alloc (Below.refl w.heap.size w) (by simp) (.cells #[.bool b, .slice A n c, .int .i64 e] 26)) (by simp) (.cells #[.bool false, .slice none 0 0] 24))
  generalize (w.alloc (.cells #[.bool b, .slice A n c, .int .i64 e] 26)).alloc (.cells #[.bool false, .slice none 0 0] 24) = v1 at *
  replace h := h.keep hb
  have q_a0 := x_a.c0; have q_a1 := x_a.c1; have f_a0 := x_a.fr 0; have f_a1 := x_a.fr 1; have q_a2 := x_a.c2; have f_a2 := x_a.fr 2
  have q_r0 := x_r.c0; have q_r1 := x_r.c1; have f_r0 := x_r.fr 0; have f_r1 := x_r.fr 1
  go_wp2_with fail
  with_reducible refine (counts_any h (by omega)).mono ?_
  rintro e v2 ⟨A1, n1, c1, rfl, zc, hb1⟩
  replace x_a := x_a.keep hb1
  replace x_r := x_r.keep hb1
  replace h := h.keep hb1
  replace hb := bthen hb hb1
  clear hb1
  replace q_a0 := x_a.c0; replace q_a1 := x_a.c1; replace f_a0 := x_a.fr 0; replace f_a1 := x_a.fr 1; replace q_a2 := x_a.c2; replace f_a2 := x_a.fr 2
  replace q_r0 := x_r.c0; replace q_r1 := x_r.c1; replace f_r0 := x_r.fr 0; replace f_r1 := x_r.fr 1
  clear h
  go_wp2_with fail
  replace x_r := x_r.asideD (b' := (ngB (od (cM X e)))) (A' := A1) (n' := n1) (c' := c1) (e' := (nE (cM X e) (cE e))) (g := w.heap.size) (by omega)
  replace zc := zc.putD (b' := (ngB (od (cM X e)))) (A' := A1) (n' := n1) (c' := c1) (e' := (nE (cM X e) (cE e))) x_a
  replace hb := put_belowD (g := w.heap.size) hb (by omega) (.bool (ngB (od (cM X e)))) (.slice A1 n1 c1) (.int .i64 (nE (cM X e) (cE e)))
  replace x_a := x_a.put (ngB (od (cM X e))) A1 n1 c1 (nE (cM X e) (cE e))
  clear q_a0 q_a1 f_a0 f_a1 q_a2 f_a2 q_r0 q_r1 f_r0 f_r1
  generalize ((v2.setCell ⟨w.heap.size, 0, none⟩ (.bool (ngB (od (cM X e))))).setCell ⟨w.heap.size, 1, none⟩ (.slice A1 n1 c1)).setCell ⟨w.heap.size, 2, none⟩ (.int .i64 (nE (cM X e) (cE e))) = v3 at *
  have q_a0 := x_a.c0; have q_a1 := x_a.c1; have f_a0 := x_a.fr 0; have f_a1 := x_a.fr 1; have q_a2 := x_a.c2; have f_a2 := x_a.fr 2
  have q_r0 := x_r.c0; have q_r1 := x_r.c1; have f_r0 := x_r.fr 0; have f_r1 := x_r.fr 1
  go_region_held3 (fun w' => w'.cell? ⟨w.heap.size, 0, none⟩ = some (.bool (ngB (od (cM X e)))) ∧ w'.cell? ⟨w.heap.size, 1, none⟩ = some (.slice A1 n1 c1) ∧ w'.cell? ⟨w.heap.size, 2, none⟩ = some (.int .i64 (nE (cM X e) (cE e))))
    (first | (with_reducible exact ⟨x_a.c0, x_a.c1, x_a.c2⟩) | (with_reducible exact ⟨(x_a.aside (by omega)).c0, (x_a.aside (by omega)).c1, (x_a.aside (by omega)).c2⟩) | (with_reducible exact ⟨((x_a.aside (by omega)).aside (by omega)).c0, ((x_a.aside (by omega)).aside (by omega)).c1, ((x_a.aside (by omega)).aside (by omega)).c2⟩) | (with_reducible exact ⟨(x_a.asideD (by omega)).c0, (x_a.asideD (by omega)).c1, (x_a.asideD (by omega)).c2⟩) | (with_reducible exact ⟨((x_a.asideD (by omega)).asideD (by omega)).c0, ((x_a.asideD (by omega)).asideD (by omega)).c1, ((x_a.asideD (by omega)).asideD (by omega)).c2⟩) | go_keep)
    (first | (go_at_call 60; (with_reducible refine (RNegZ_any zc.drw.zr j (Nat.le_refl _) (by omega)).mono ?_); rintro e v4 ⟨A2, n2, c2, rfl, z2, hb1⟩; replace hb1 := undrew hb1; replace x_a := x_a.keep hb1; replace x_r := x_r.keep hb1; replace zc := zc.keep hb1; replace hb := bthen hb hb1; clear hb1; replace q_a0 := x_a.c0; replace q_a1 := x_a.c1; replace f_a0 := x_a.fr 0; replace f_a1 := x_a.fr 1; replace q_a2 := x_a.c2; replace f_a2 := x_a.fr 2; replace q_r0 := x_r.c0; replace q_r1 := x_r.c1; replace f_r0 := x_r.fr 0; replace f_r1 := x_r.fr 1) | (go_at_call 62; (with_reducible refine (near_any q _).mono ?_); rintro e v5 ⟨rfl, hb1⟩; replace x_a := x_a.keep hb1; replace x_r := x_r.keep hb1; replace zc := zc.keep hb1; replace z2 := z2.keep hb1; replace hb := bthen hb hb1; clear hb1; replace q_a0 := x_a.c0; replace q_a1 := x_a.c1; replace f_a0 := x_a.fr 0; replace f_a1 := x_a.fr 1; replace q_a2 := x_a.c2; replace f_a2 := x_a.fr 2; replace q_r0 := x_r.c0; replace q_r1 := x_r.c1; replace f_r0 := x_r.fr 0; replace f_r1 := x_r.fr 1) | (go_at_call 65; (with_reducible refine (lower_any z2.zr (nE (cM X e) (cE e) + li q) (by omega) k hk hk2).mono ?_); rintro e v6 ⟨A3, n3, c3, rfl, z3, hb1⟩; replace x_a := x_a.keep hb1; replace x_r := x_r.keep hb1; replace zc := zc.keep hb1; replace z2 := z2.keep hb1; replace hb := bthen hb hb1; clear hb1; replace q_a0 := x_a.c0; replace q_a1 := x_a.c1; replace f_a0 := x_a.fr 0; replace f_a1 := x_a.fr 1; replace q_a2 := x_a.c2; replace f_a2 := x_a.fr 2; replace q_r0 := x_r.c0; replace q_r1 := x_r.c1; replace f_r0 := x_r.fr 0; replace f_r1 := x_r.fr 1; rw [HV.out] at z3 ⊢) | (go_at_call 60; (with_reducible refine (RNegZ_any z3.zr k (Nat.le_refl _) (by omega)).mono ?_); rintro e v7 ⟨A4, n4, c4, rfl, z4, hb1⟩; replace x_a := x_a.keep hb1; replace x_r := x_r.keep hb1; replace zc := zc.keep hb1; replace z2 := z2.keep hb1; replace z3 := z3.keep hb1; replace hb := bthen hb hb1; clear hb1; replace q_a0 := x_a.c0; replace q_a1 := x_a.c1; replace f_a0 := x_a.fr 0; replace f_a1 := x_a.fr 1; replace q_a2 := x_a.c2; replace f_a2 := x_a.fr 2; replace q_r0 := x_r.c0; replace q_r1 := x_r.c1; replace f_r0 := x_r.fr 0; replace f_r1 := x_r.fr 1))
  go_wp2
  replace x_a := x_a.aside (b' := (ngB (-flI (-cM X e) (cE e + li q)))) (A' := A4) (n' := n4) (c' := c4) (g := w.heap.size + 1) (by omega)
  replace zc := zc.put (b' := (ngB (-flI (-cM X e) (cE e + li q)))) (A' := A4) (n' := n4) (c' := c4) x_r
  replace z2 := z2.put (b' := (ngB (-flI (-cM X e) (cE e + li q)))) (A' := A4) (n' := n4) (c' := c4) x_r
  replace z3 := z3.put (b' := (ngB (-flI (-cM X e) (cE e + li q)))) (A' := A4) (n' := n4) (c' := c4) x_r
  replace z4 := z4.put (b' := (ngB (-flI (-cM X e) (cE e + li q)))) (A' := A4) (n' := n4) (c' := c4) x_r
  replace hb := put_below (g := w.heap.size + 1) hb (by omega) (.bool (ngB (-flI (-cM X e) (cE e + li q)))) (.slice A4 n4 c4)
  replace x_r := x_r.put (ngB (-flI (-cM X e) (cE e + li q))) A4 n4 c4
  clear q_a0 q_a1 f_a0 f_a1 q_a2 f_a2 q_r0 q_r1 f_r0 f_r1
  generalize (v7.setCell ⟨w.heap.size + 1, 0, none⟩ (.bool (ngB (-flI (-cM X e) (cE e + li q))))).setCell ⟨w.heap.size + 1, 1, none⟩ (.slice A4 n4 c4) = v8 at *
  have q_a0 := x_a.c0; have q_a1 := x_a.c1; have f_a0 := x_a.fr 0; have f_a1 := x_a.fr 1; have q_a2 := x_a.c2; have f_a2 := x_a.fr 2
  have q_r0 := x_r.c0; have q_r1 := x_r.c1; have f_r0 := x_r.fr 0; have f_r1 := x_r.fr 1
  refine bodyPost_ret (v := .agg #[.bool (ngB (-flI (-cM X e) (cE e + li q))), .slice A4 n4 c4]) (by simp [results, Tryd.results36, go_sem, q_r0, q_r1]) rfl ?_
  exact ⟨_, _, _, rfl, z4, hb⟩
end
end Go.Proofs.YtcoidcbbdibnaaaDoor
namespace Go.Proofs.YtcoidcbbdibnaaaDoor
section
open Go.RowKit
set_option linter.unusedVariables false

theorem alP_all (X e f : Int) : vd (alP X e f) (alE e f) = vd (cM X e) (cE e) := by
  unfold alP
  exact vd_low (by unfold alE; omega) (alE_in e f).1
theorem alQ_all (Y e f : Int) : vd (alQ Y e f) (alE e f) = vd (cM Y f) (cE f) := by
  unfold alQ
  exact vd_low (by unfold alE; omega) (alE_in e f).1
/-- The document's sum is the program's. -/
theorem add_ref {X Y e f m : Int} (h1 : m ≤ nE (cM X e) (cE e)) (h2 : m ≤ nE (cM Y f) (cE f)) (h0 : -4000 ≤ m) :
    od (od (cM X e) * 2 ^ (nE (cM X e) (cE e) - m).toNat + od (cM Y f) * 2 ^ (nE (cM Y f) (cE f) - m).toNat) = od (alP X e f + alQ Y e f) ∧
    nE (od (cM X e) * 2 ^ (nE (cM X e) (cE e) - m).toNat + od (cM Y f) * 2 ^ (nE (cM Y f) (cE f) - m).toNat) m = nE (alP X e f + alQ Y e f) (alE e f) := by
  refine vd_same h0 (alE_in e f).1 ?_
  rw [vd_add, vd_low h1 h0, vd_low h2 h0, vd_nf (cE_in e).1, vd_nf (cE_in f).1, vd_add, alP_all, alQ_all]
theorem sub_ref {X Y e f m : Int} (h1 : m ≤ nE (cM X e) (cE e)) (h2 : m ≤ nE (cM Y f) (cE f)) (h0 : -4000 ≤ m) :
    od (od (cM X e) * 2 ^ (nE (cM X e) (cE e) - m).toNat - od (cM Y f) * 2 ^ (nE (cM Y f) (cE f) - m).toNat) = od (alP X e f - alQ Y e f) ∧
    nE (od (cM X e) * 2 ^ (nE (cM X e) (cE e) - m).toNat - od (cM Y f) * 2 ^ (nE (cM Y f) (cE f) - m).toNat) m = nE (alP X e f - alQ Y e f) (alE e f) := by
  refine vd_same h0 (alE_in e f).1 ?_
  rw [vd_sub, vd_low h1 h0, vd_low h2 h0, vd_nf (cE_in e).1, vd_nf (cE_in f).1, vd_sub, alP_all, alQ_all]
theorem mul_ref (X Y e f : Int) : od (od X * od Y) = od (X * Y) ∧ nE (od X * od Y) (nE X e + nE Y f) = nE (X * Y) (e + f) := by
  by_cases hX : X = 0
  · subst hX; rw [od_zero, Int.zero_mul, Int.zero_mul]; exact ⟨rfl, rfl⟩
  · by_cases hY : Y = 0
    · subst hY; rw [od_zero, Int.mul_zero, Int.mul_zero]; exact ⟨rfl, rfl⟩
    · have h1 := (tz_spec hX).1
      have h2 := (tz_spec hY).1
      rw [nE_ne hX, nE_ne hY]
      generalize od X = a at *
      generalize od Y = b at *
      generalize tz X = s at *
      generalize tz Y = t at *
      subst h1 h2
      have e1 : a * 2 ^ s * (b * 2 ^ t) = a * b * 2 ^ (s + t) := by
        rw [Int.pow_add, Int.mul_assoc, Int.mul_left_comm (2 ^ s) b, ← Int.mul_assoc]
      rw [e1, od_shl, nE_shl]
      exact ⟨rfl, by congr 1; omega⟩
theorem neg_ref (X e : Int) : od (-od X) = od (-X) ∧ nE (-od X) (nE X e) = nE (-X) e := by
  have h := od_nf (X := X) (e := e)
  rw [od_neg, od_neg, h.1, nE_neg, nE_neg, h.2]
  exact ⟨rfl, rfl⟩
theorem shift_ref (X e q : Int) : od (od X) = od X ∧ nE (od X) (nE X e + q) = nE X (e + q) := by
  refine ⟨(od_nf (X := X) (e := e)).1, ?_⟩
  by_cases h : X = 0
  · subst h; rw [od_zero]; rfl
  · have h2 := nf_unique (X := od X) (t := 0) (by omega) (tz_spec h).2
    rw [nE_ne h, nE_ne h, nE_ne (od_ne h), h2.1]; omega

set_option maxRecDepth 100000 in
set_option maxHeartbeats 8000000 in
theorem DRAdd_any {b b2 : Bool} {A A2 : Option Addr} {n c n2 c2 : Nat} {X Y e f : Int} {j j2 : Nat} {w : World} (h : Zr w b A n c X j) (h2 : Zr w b2 A2 n2 c2 Y j2) (hj : j ≤ 12) (hj2 : j2 ≤ 12) :
    Calls Tryd.prog 23 #[.agg #[.bool b, .slice A n c, .int .i64 e], .agg #[.bool b2, .slice A2 n2 c2, .int .i64 f]] w (OutD w (od (alP X e f + alQ Y e f)) (nE (alP X e f + alQ Y e f) (alE e f)) 400) := by
  have hr := nE_rng (h.si.counted (e := e)) (cE_in e)
  have hr2 := nE_rng (h2.si.counted (e := f)) (cE_in f)
  have hw0 : IntKind.i64.wrap 0 = 0 := rfl
  rcases Int.lt_or_le (nE (cM Y f) (cE f)) (nE (cM X e) (cE e)) with hlt | hle
  · have href := add_ref (X := X) (Y := Y) (e := e) (f := f) (m := nE (cM Y f) (cE f)) (by omega) (by omega) (by omega)
    rw [Int.sub_self] at href
    obtain ⟨PP, hP⟩ : ∃ PP, od (cM X e) * 2 ^ ((nE (cM X e) (cE e) - nE (cM Y f) (cE f)) : Int).toNat = PP := ⟨_, rfl⟩
    obtain ⟨QQ, hQ⟩ : ∃ QQ, od (cM Y f) * 2 ^ (0 : Int).toNat = QQ := ⟨_, rfl⟩
    rw [hP, hQ] at href
    have HREF := Lib.hid href; have HP := Lib.hid hP; have HQ := Lib.hid hQ; clear href hP hQ
    have hw1 : IntKind.i64.wrap (nE (cM X e) (cE e) - nE (cM Y f) (cE f)) = (nE (cM X e) (cE e) - nE (cM Y f) (cE f)) := IntWalk.i64_in _ ⟨by omega, by omega⟩
    go_enter Tryd.func23, Tryd.ntmps23
    go_wp2_with fail
    have x_a : Dx (w.alloc (.cells #[.bool b, .slice A n c, .int .i64 e] 26)) (w.heap.size) b A n c e := by have := Dx.new w b A n c e; simpa using this
    replace x_a := x_a.alloc (.cells #[.bool b2, .slice A2 n2 c2, .int .i64 f] 26)
    have x_b : Dx ((w.alloc (.cells #[.bool b, .slice A n c, .int .i64 e] 26)).alloc (.cells #[.bool b2, .slice A2 n2 c2, .int .i64 f] 26)) (w.heap.size + 1) b2 A2 n2 c2 f := by have := Dx.new (w.alloc (.cells #[.bool b, .slice A n c, .int .i64 e] 26)) b2 A2 n2 c2 f; simpa using this
    replace x_a := x_a.alloc (.cells #[.bool false, .slice none 0 0, .int .i64 0] 26)
    replace x_b := x_b.alloc (.cells #[.bool false, .slice none 0 0, .int .i64 0] 26)
    have x_r : Dx (((w.alloc (.cells #[.bool b, .slice A n c, .int .i64 e] 26)).alloc (.cells #[.bool b2, .slice A2 n2 c2, .int .i64 f] 26)).alloc (.cells #[.bool false, .slice none 0 0, .int .i64 0] 26)) (w.heap.size + 1 + 1) false none 0 0 0 := by have := Dx.new ((w.alloc (.cells #[.bool b, .slice A n c, .int .i64 e] 26)).alloc (.cells #[.bool b2, .slice A2 n2 c2, .int .i64 f] 26)) false none 0 0 0; simpa using this
    have hb : Below w.heap.size w (((w.alloc (.cells #[.bool b, .slice A n c, .int .i64 e] 26)).alloc (.cells #[.bool b2, .slice A2 n2 c2, .int .i64 f] 26)).alloc (.cells #[.bool false, .slice none 0 0, .int .i64 0] 26)) := (Below.alloc (Below.alloc (Below.alloc (Below.refl w.heap.size w) (by simp) (.cells #[.bool b, .slice A n c, .int .i64 e] 26)) (by simp) (.cells #[.bool b2, .slice A2 n2 c2, .int .i64 f] 26)) (by simp; omega) (.cells #[.bool false, .slice none 0 0, .int .i64 0] 26))
    generalize ((w.alloc (.cells #[.bool b, .slice A n c, .int .i64 e] 26)).alloc (.cells #[.bool b2, .slice A2 n2 c2, .int .i64 f] 26)).alloc (.cells #[.bool false, .slice none 0 0, .int .i64 0] 26) = v1 at *
    replace h := h.keep hb
    replace h2 := h2.keep hb
    have q_a0 := x_a.c0; have q_a1 := x_a.c1; have f_a0 := x_a.fr 0; have f_a1 := x_a.fr 1; have q_a2 := x_a.c2; have f_a2 := x_a.fr 2
    have q_b0 := x_b.c0; have q_b1 := x_b.c1; have f_b0 := x_b.fr 0; have f_b1 := x_b.fr 1; have q_b2 := x_b.c2; have f_b2 := x_b.fr 2
    have q_r0 := x_r.c0; have q_r1 := x_r.c1; have f_r0 := x_r.fr 0; have f_r1 := x_r.fr 1; have q_r2 := x_r.c2; have f_r2 := x_r.fr 2
    go_wp2_with fail
    with_reducible refine (counts_any h (by omega)).mono ?_
    rintro e v2 ⟨A1, n1, c1, rfl, zc, hb1⟩
    replace x_a := x_a.keep hb1
    replace x_b := x_b.keep hb1
    replace x_r := x_r.keep hb1
    replace h := h.keep hb1
    replace h2 := h2.keep hb1
    replace hb := bthen hb hb1
    clear hb1
    replace q_a0 := x_a.c0; replace q_a1 := x_a.c1; replace f_a0 := x_a.fr 0; replace f_a1 := x_a.fr 1; replace q_a2 := x_a.c2; replace f_a2 := x_a.fr 2
    replace q_b0 := x_b.c0; replace q_b1 := x_b.c1; replace f_b0 := x_b.fr 0; replace f_b1 := x_b.fr 1; replace q_b2 := x_b.c2; replace f_b2 := x_b.fr 2
    replace q_r0 := x_r.c0; replace q_r1 := x_r.c1; replace f_r0 := x_r.fr 0; replace f_r1 := x_r.fr 1; replace q_r2 := x_r.c2; replace f_r2 := x_r.fr 2
    clear h
    go_wp2_with fail
    replace x_b := x_b.asideD (b' := (ngB (od (cM X e)))) (A' := A1) (n' := n1) (c' := c1) (e' := (nE (cM X e) (cE e))) (g := w.heap.size) (by omega)
    replace x_r := x_r.asideD (b' := (ngB (od (cM X e)))) (A' := A1) (n' := n1) (c' := c1) (e' := (nE (cM X e) (cE e))) (g := w.heap.size) (by omega)
    replace h2 := h2.putD (b' := (ngB (od (cM X e)))) (A' := A1) (n' := n1) (c' := c1) (e' := (nE (cM X e) (cE e))) x_a
    replace zc := zc.putD (b' := (ngB (od (cM X e)))) (A' := A1) (n' := n1) (c' := c1) (e' := (nE (cM X e) (cE e))) x_a
    replace hb := put_belowD (g := w.heap.size) hb (by omega) (.bool (ngB (od (cM X e)))) (.slice A1 n1 c1) (.int .i64 (nE (cM X e) (cE e)))
    replace x_a := x_a.put (ngB (od (cM X e))) A1 n1 c1 (nE (cM X e) (cE e))
    clear q_a0 q_a1 f_a0 f_a1 q_a2 f_a2 q_b0 q_b1 f_b0 f_b1 q_b2 f_b2 q_r0 q_r1 f_r0 f_r1 q_r2 f_r2
    generalize ((v2.setCell ⟨w.heap.size, 0, none⟩ (.bool (ngB (od (cM X e))))).setCell ⟨w.heap.size, 1, none⟩ (.slice A1 n1 c1)).setCell ⟨w.heap.size, 2, none⟩ (.int .i64 (nE (cM X e) (cE e))) = v3 at *
    have q_a0 := x_a.c0; have q_a1 := x_a.c1; have f_a0 := x_a.fr 0; have f_a1 := x_a.fr 1; have q_a2 := x_a.c2; have f_a2 := x_a.fr 2
    have q_b0 := x_b.c0; have q_b1 := x_b.c1; have f_b0 := x_b.fr 0; have f_b1 := x_b.fr 1; have q_b2 := x_b.c2; have f_b2 := x_b.fr 2
    have q_r0 := x_r.c0; have q_r1 := x_r.c1; have f_r0 := x_r.fr 0; have f_r1 := x_r.fr 1; have q_r2 := x_r.c2; have f_r2 := x_r.fr 2
    with_reducible refine (counts_any h2 (by omega)).mono ?_
    rintro e v4 ⟨A3, n3, c3, rfl, zd, hb1⟩
    replace x_a := x_a.keep hb1
    replace x_b := x_b.keep hb1
    replace x_r := x_r.keep hb1
    replace h2 := h2.keep hb1
    replace zc := zc.keep hb1
    replace hb := bthen hb hb1
    clear hb1
    replace q_a0 := x_a.c0; replace q_a1 := x_a.c1; replace f_a0 := x_a.fr 0; replace f_a1 := x_a.fr 1; replace q_a2 := x_a.c2; replace f_a2 := x_a.fr 2
    replace q_b0 := x_b.c0; replace q_b1 := x_b.c1; replace f_b0 := x_b.fr 0; replace f_b1 := x_b.fr 1; replace q_b2 := x_b.c2; replace f_b2 := x_b.fr 2
    replace q_r0 := x_r.c0; replace q_r1 := x_r.c1; replace f_r0 := x_r.fr 0; replace f_r1 := x_r.fr 1; replace q_r2 := x_r.c2; replace f_r2 := x_r.fr 2
    clear h2
    go_wp2_with fail
    replace x_a := x_a.asideD (b' := (ngB (od (cM Y f)))) (A' := A3) (n' := n3) (c' := c3) (e' := (nE (cM Y f) (cE f))) (g := w.heap.size + 1) (by omega)
    replace x_r := x_r.asideD (b' := (ngB (od (cM Y f)))) (A' := A3) (n' := n3) (c' := c3) (e' := (nE (cM Y f) (cE f))) (g := w.heap.size + 1) (by omega)
    replace zc := zc.putD (b' := (ngB (od (cM Y f)))) (A' := A3) (n' := n3) (c' := c3) (e' := (nE (cM Y f) (cE f))) x_b
    replace zd := zd.putD (b' := (ngB (od (cM Y f)))) (A' := A3) (n' := n3) (c' := c3) (e' := (nE (cM Y f) (cE f))) x_b
    replace hb := put_belowD (g := w.heap.size + 1) hb (by omega) (.bool (ngB (od (cM Y f)))) (.slice A3 n3 c3) (.int .i64 (nE (cM Y f) (cE f)))
    replace x_b := x_b.put (ngB (od (cM Y f))) A3 n3 c3 (nE (cM Y f) (cE f))
    clear q_a0 q_a1 f_a0 f_a1 q_a2 f_a2 q_b0 q_b1 f_b0 f_b1 q_b2 f_b2 q_r0 q_r1 f_r0 f_r1 q_r2 f_r2
    generalize ((v4.setCell ⟨w.heap.size + 1, 0, none⟩ (.bool (ngB (od (cM Y f))))).setCell ⟨w.heap.size + 1, 1, none⟩ (.slice A3 n3 c3)).setCell ⟨w.heap.size + 1, 2, none⟩ (.int .i64 (nE (cM Y f) (cE f))) = v5 at *
    have q_a0 := x_a.c0; have q_a1 := x_a.c1; have f_a0 := x_a.fr 0; have f_a1 := x_a.fr 1; have q_a2 := x_a.c2; have f_a2 := x_a.fr 2
    have q_b0 := x_b.c0; have q_b1 := x_b.c1; have f_b0 := x_b.fr 0; have f_b1 := x_b.fr 1; have q_b2 := x_b.c2; have f_b2 := x_b.fr 2
    have q_r0 := x_r.c0; have q_r1 := x_r.c1; have f_r0 := x_r.fr 0; have f_r1 := x_r.fr 1; have q_r2 := x_r.c2; have f_r2 := x_r.fr 2
    go_region_held3 (fun w' => w'.cell? ⟨w.heap.size, 0, none⟩ = some (.bool (ngB (od (cM X e)))) ∧ w'.cell? ⟨w.heap.size, 1, none⟩ = some (.slice A1 n1 c1) ∧ w'.cell? ⟨w.heap.size, 2, none⟩ = some (.int .i64 (nE (cM X e) (cE e))) ∧ w'.cell? ⟨w.heap.size + 1, 0, none⟩ = some (.bool (ngB (od (cM Y f)))) ∧ w'.cell? ⟨w.heap.size + 1, 1, none⟩ = some (.slice A3 n3 c3) ∧ w'.cell? ⟨w.heap.size + 1, 2, none⟩ = some (.int .i64 (nE (cM Y f) (cE f))))
      (first | (with_reducible exact ⟨x_a.c0, x_a.c1, x_a.c2, x_b.c0, x_b.c1, x_b.c2⟩) | (with_reducible exact ⟨(x_a.aside (by omega)).c0, (x_a.aside (by omega)).c1, (x_a.aside (by omega)).c2, (x_b.aside (by omega)).c0, (x_b.aside (by omega)).c1, (x_b.aside (by omega)).c2⟩) | (with_reducible exact ⟨((x_a.aside (by omega)).aside (by omega)).c0, ((x_a.aside (by omega)).aside (by omega)).c1, ((x_a.aside (by omega)).aside (by omega)).c2, ((x_b.aside (by omega)).aside (by omega)).c0, ((x_b.aside (by omega)).aside (by omega)).c1, ((x_b.aside (by omega)).aside (by omega)).c2⟩) | (with_reducible exact ⟨(x_a.asideD (by omega)).c0, (x_a.asideD (by omega)).c1, (x_a.asideD (by omega)).c2, (x_b.asideD (by omega)).c0, (x_b.asideD (by omega)).c1, (x_b.asideD (by omega)).c2⟩) | (with_reducible exact ⟨((x_a.asideD (by omega)).asideD (by omega)).c0, ((x_a.asideD (by omega)).asideD (by omega)).c1, ((x_a.asideD (by omega)).asideD (by omega)).c2, ((x_b.asideD (by omega)).asideD (by omega)).c0, ((x_b.asideD (by omega)).asideD (by omega)).c1, ((x_b.asideD (by omega)).asideD (by omega)).c2⟩) | go_keep)
      (first | (go_at_call 55; (with_reducible refine (raised_any zc.drw.zr (nE (cM X e) (cE e) - nE (cM Y f) (cE f)) (by omega) 280 (by omega) (by omega)).mono ?_); rintro e v6 ⟨A5, n5, c5, rfl, z5, hb1⟩; replace hb1 := undrew hb1; replace x_a := x_a.keep hb1; replace x_b := x_b.keep hb1; replace x_r := x_r.keep hb1; replace zc := zc.keep hb1; replace zd := zd.keep hb1; replace hb := bthen hb hb1; clear hb1; replace q_a0 := x_a.c0; replace q_a1 := x_a.c1; replace f_a0 := x_a.fr 0; replace f_a1 := x_a.fr 1; replace q_a2 := x_a.c2; replace f_a2 := x_a.fr 2; replace q_b0 := x_b.c0; replace q_b1 := x_b.c1; replace f_b0 := x_b.fr 0; replace f_b1 := x_b.fr 1; replace q_b2 := x_b.c2; replace f_b2 := x_b.fr 2; replace q_r0 := x_r.c0; replace q_r1 := x_r.c1; replace f_r0 := x_r.fr 0; replace f_r1 := x_r.fr 1; replace q_r2 := x_r.c2; replace f_r2 := x_r.fr 2; rw [HP.out] at z5 ⊢) | (go_at_call 55; (with_reducible refine (raised_any zd.zr 0 (by omega) 280 (by omega) (by omega)).mono ?_); rintro e v7 ⟨A6, n6, c6, rfl, z6, hb1⟩; replace x_a := x_a.keep hb1; replace x_b := x_b.keep hb1; replace x_r := x_r.keep hb1; replace zc := zc.keep hb1; replace zd := zd.keep hb1; replace z5 := z5.keep hb1; replace hb := bthen hb hb1; clear hb1; replace q_a0 := x_a.c0; replace q_a1 := x_a.c1; replace f_a0 := x_a.fr 0; replace f_a1 := x_a.fr 1; replace q_a2 := x_a.c2; replace f_a2 := x_a.fr 2; replace q_b0 := x_b.c0; replace q_b1 := x_b.c1; replace f_b0 := x_b.fr 0; replace f_b1 := x_b.fr 1; replace q_b2 := x_b.c2; replace f_b2 := x_b.fr 2; replace q_r0 := x_r.c0; replace q_r1 := x_r.c1; replace f_r0 := x_r.fr 0; replace f_r1 := x_r.fr 1; replace q_r2 := x_r.c2; replace f_r2 := x_r.fr 2; rw [HQ.out] at z6 ⊢) | (go_at_call 54; (with_reducible refine (RAddZ_any z5.zr z6.zr 400 (by omega) (by omega) (by omega)).mono ?_); rintro e v8 ⟨A7, n7, c7, rfl, z7, hb1⟩; replace x_a := x_a.keep hb1; replace x_b := x_b.keep hb1; replace x_r := x_r.keep hb1; replace zc := zc.keep hb1; replace zd := zd.keep hb1; replace z5 := z5.keep hb1; replace z6 := z6.keep hb1; replace hb := bthen hb hb1; clear hb1; replace q_a0 := x_a.c0; replace q_a1 := x_a.c1; replace f_a0 := x_a.fr 0; replace f_a1 := x_a.fr 1; replace q_a2 := x_a.c2; replace f_a2 := x_a.fr 2; replace q_b0 := x_b.c0; replace q_b1 := x_b.c1; replace f_b0 := x_b.fr 0; replace f_b1 := x_b.fr 1; replace q_b2 := x_b.c2; replace f_b2 := x_b.fr 2; replace q_r0 := x_r.c0; replace q_r1 := x_r.c1; replace f_r0 := x_r.fr 0; replace f_r1 := x_r.fr 1; replace q_r2 := x_r.c2; replace f_r2 := x_r.fr 2) | (go_at_call 53; (with_reducible refine (plain_any z7.zr (nE (cM Y f) (cE f)) (by omega) (by omega)).mono ?_); rintro e v9 ⟨A8, n8, c8, rfl, z8, hb1⟩; replace x_a := x_a.keep hb1; replace x_b := x_b.keep hb1; replace x_r := x_r.keep hb1; replace zc := zc.keep hb1; replace zd := zd.keep hb1; replace z5 := z5.keep hb1; replace z6 := z6.keep hb1; replace z7 := z7.keep hb1; replace hb := bthen hb hb1; clear hb1; replace q_a0 := x_a.c0; replace q_a1 := x_a.c1; replace f_a0 := x_a.fr 0; replace f_a1 := x_a.fr 1; replace q_a2 := x_a.c2; replace f_a2 := x_a.fr 2; replace q_b0 := x_b.c0; replace q_b1 := x_b.c1; replace f_b0 := x_b.fr 0; replace f_b1 := x_b.fr 1; replace q_b2 := x_b.c2; replace f_b2 := x_b.fr 2; replace q_r0 := x_r.c0; replace q_r1 := x_r.c1; replace f_r0 := x_r.fr 0; replace f_r1 := x_r.fr 1; replace q_r2 := x_r.c2; replace f_r2 := x_r.fr 2; rw [HREF.out.1] at z8 ⊢; rw [HREF.out.2]))
    go_wp2
    replace x_a := x_a.asideD (b' := (ngB (od (alP X e f + alQ Y e f)))) (A' := A8) (n' := n8) (c' := c8) (e' := (nE (alP X e f + alQ Y e f) (alE e f))) (g := w.heap.size + 1 + 1) (by omega)
    replace x_b := x_b.asideD (b' := (ngB (od (alP X e f + alQ Y e f)))) (A' := A8) (n' := n8) (c' := c8) (e' := (nE (alP X e f + alQ Y e f) (alE e f))) (g := w.heap.size + 1 + 1) (by omega)
    replace zc := zc.putD (b' := (ngB (od (alP X e f + alQ Y e f)))) (A' := A8) (n' := n8) (c' := c8) (e' := (nE (alP X e f + alQ Y e f) (alE e f))) x_r
    replace zd := zd.putD (b' := (ngB (od (alP X e f + alQ Y e f)))) (A' := A8) (n' := n8) (c' := c8) (e' := (nE (alP X e f + alQ Y e f) (alE e f))) x_r
    replace z5 := z5.putD (b' := (ngB (od (alP X e f + alQ Y e f)))) (A' := A8) (n' := n8) (c' := c8) (e' := (nE (alP X e f + alQ Y e f) (alE e f))) x_r
    replace z6 := z6.putD (b' := (ngB (od (alP X e f + alQ Y e f)))) (A' := A8) (n' := n8) (c' := c8) (e' := (nE (alP X e f + alQ Y e f) (alE e f))) x_r
    replace z7 := z7.putD (b' := (ngB (od (alP X e f + alQ Y e f)))) (A' := A8) (n' := n8) (c' := c8) (e' := (nE (alP X e f + alQ Y e f) (alE e f))) x_r
    replace z8 := z8.putD (b' := (ngB (od (alP X e f + alQ Y e f)))) (A' := A8) (n' := n8) (c' := c8) (e' := (nE (alP X e f + alQ Y e f) (alE e f))) x_r
    replace hb := put_belowD (g := w.heap.size + 1 + 1) hb (by omega) (.bool (ngB (od (alP X e f + alQ Y e f)))) (.slice A8 n8 c8) (.int .i64 (nE (alP X e f + alQ Y e f) (alE e f)))
    replace x_r := x_r.put (ngB (od (alP X e f + alQ Y e f))) A8 n8 c8 (nE (alP X e f + alQ Y e f) (alE e f))
    clear q_a0 q_a1 f_a0 f_a1 q_a2 f_a2 q_b0 q_b1 f_b0 f_b1 q_b2 f_b2 q_r0 q_r1 f_r0 f_r1 q_r2 f_r2
    generalize ((v9.setCell ⟨w.heap.size + 1 + 1, 0, none⟩ (.bool (ngB (od (alP X e f + alQ Y e f))))).setCell ⟨w.heap.size + 1 + 1, 1, none⟩ (.slice A8 n8 c8)).setCell ⟨w.heap.size + 1 + 1, 2, none⟩ (.int .i64 (nE (alP X e f + alQ Y e f) (alE e f))) = v10 at *
    have q_a0 := x_a.c0; have q_a1 := x_a.c1; have f_a0 := x_a.fr 0; have f_a1 := x_a.fr 1; have q_a2 := x_a.c2; have f_a2 := x_a.fr 2
    have q_b0 := x_b.c0; have q_b1 := x_b.c1; have f_b0 := x_b.fr 0; have f_b1 := x_b.fr 1; have q_b2 := x_b.c2; have f_b2 := x_b.fr 2
    have q_r0 := x_r.c0; have q_r1 := x_r.c1; have f_r0 := x_r.fr 0; have f_r1 := x_r.fr 1; have q_r2 := x_r.c2; have f_r2 := x_r.fr 2
    refine bodyPost_ret (v := .agg #[.bool (ngB (od (alP X e f + alQ Y e f))), .slice A8 n8 c8, .int .i64 (nE (alP X e f + alQ Y e f) (alE e f))]) (by simp [results, Tryd.results23, go_sem, q_r0, q_r1, q_r2]) rfl ?_
    exact ⟨_, _, _, rfl, z8, hb⟩
  · have href := add_ref (X := X) (Y := Y) (e := e) (f := f) (m := nE (cM X e) (cE e)) (by omega) (by omega) (by omega)
    rw [Int.sub_self] at href
    obtain ⟨PP, hP⟩ : ∃ PP, od (cM X e) * 2 ^ (0 : Int).toNat = PP := ⟨_, rfl⟩
    obtain ⟨QQ, hQ⟩ : ∃ QQ, od (cM Y f) * 2 ^ ((nE (cM Y f) (cE f) - nE (cM X e) (cE e)) : Int).toNat = QQ := ⟨_, rfl⟩
    rw [hP, hQ] at href
    have HREF := Lib.hid href; have HP := Lib.hid hP; have HQ := Lib.hid hQ; clear href hP hQ
    have hw1 : IntKind.i64.wrap (nE (cM Y f) (cE f) - nE (cM X e) (cE e)) = (nE (cM Y f) (cE f) - nE (cM X e) (cE e)) := IntWalk.i64_in _ ⟨by omega, by omega⟩
    go_enter Tryd.func23, Tryd.ntmps23
    go_wp2_with fail
    have x_a : Dx (w.alloc (.cells #[.bool b, .slice A n c, .int .i64 e] 26)) (w.heap.size) b A n c e := by have := Dx.new w b A n c e; simpa using this
    replace x_a := x_a.alloc (.cells #[.bool b2, .slice A2 n2 c2, .int .i64 f] 26)
    have x_b : Dx ((w.alloc (.cells #[.bool b, .slice A n c, .int .i64 e] 26)).alloc (.cells #[.bool b2, .slice A2 n2 c2, .int .i64 f] 26)) (w.heap.size + 1) b2 A2 n2 c2 f := by have := Dx.new (w.alloc (.cells #[.bool b, .slice A n c, .int .i64 e] 26)) b2 A2 n2 c2 f; simpa using this
    replace x_a := x_a.alloc (.cells #[.bool false, .slice none 0 0, .int .i64 0] 26)
    replace x_b := x_b.alloc (.cells #[.bool false, .slice none 0 0, .int .i64 0] 26)
    have x_r : Dx (((w.alloc (.cells #[.bool b, .slice A n c, .int .i64 e] 26)).alloc (.cells #[.bool b2, .slice A2 n2 c2, .int .i64 f] 26)).alloc (.cells #[.bool false, .slice none 0 0, .int .i64 0] 26)) (w.heap.size + 1 + 1) false none 0 0 0 := by have := Dx.new ((w.alloc (.cells #[.bool b, .slice A n c, .int .i64 e] 26)).alloc (.cells #[.bool b2, .slice A2 n2 c2, .int .i64 f] 26)) false none 0 0 0; simpa using this
    have hb : Below w.heap.size w (((w.alloc (.cells #[.bool b, .slice A n c, .int .i64 e] 26)).alloc (.cells #[.bool b2, .slice A2 n2 c2, .int .i64 f] 26)).alloc (.cells #[.bool false, .slice none 0 0, .int .i64 0] 26)) := (Below.alloc (Below.alloc (Below.alloc (Below.refl w.heap.size w) (by simp) (.cells #[.bool b, .slice A n c, .int .i64 e] 26)) (by simp) (.cells #[.bool b2, .slice A2 n2 c2, .int .i64 f] 26)) (by simp; omega) (.cells #[.bool false, .slice none 0 0, .int .i64 0] 26))
    generalize ((w.alloc (.cells #[.bool b, .slice A n c, .int .i64 e] 26)).alloc (.cells #[.bool b2, .slice A2 n2 c2, .int .i64 f] 26)).alloc (.cells #[.bool false, .slice none 0 0, .int .i64 0] 26) = v1 at *
    replace h := h.keep hb
    replace h2 := h2.keep hb
    have q_a0 := x_a.c0; have q_a1 := x_a.c1; have f_a0 := x_a.fr 0; have f_a1 := x_a.fr 1; have q_a2 := x_a.c2; have f_a2 := x_a.fr 2
    have q_b0 := x_b.c0; have q_b1 := x_b.c1; have f_b0 := x_b.fr 0; have f_b1 := x_b.fr 1; have q_b2 := x_b.c2; have f_b2 := x_b.fr 2
    have q_r0 := x_r.c0; have q_r1 := x_r.c1; have f_r0 := x_r.fr 0; have f_r1 := x_r.fr 1; have q_r2 := x_r.c2; have f_r2 := x_r.fr 2
    go_wp2_with fail
    with_reducible refine (counts_any h (by omega)).mono ?_
    rintro e v2 ⟨A1, n1, c1, rfl, zc, hb1⟩
    replace x_a := x_a.keep hb1
    replace x_b := x_b.keep hb1
    replace x_r := x_r.keep hb1
    replace h := h.keep hb1
    replace h2 := h2.keep hb1
    replace hb := bthen hb hb1
    clear hb1
    replace q_a0 := x_a.c0; replace q_a1 := x_a.c1; replace f_a0 := x_a.fr 0; replace f_a1 := x_a.fr 1; replace q_a2 := x_a.c2; replace f_a2 := x_a.fr 2
    replace q_b0 := x_b.c0; replace q_b1 := x_b.c1; replace f_b0 := x_b.fr 0; replace f_b1 := x_b.fr 1; replace q_b2 := x_b.c2; replace f_b2 := x_b.fr 2
    replace q_r0 := x_r.c0; replace q_r1 := x_r.c1; replace f_r0 := x_r.fr 0; replace f_r1 := x_r.fr 1; replace q_r2 := x_r.c2; replace f_r2 := x_r.fr 2
    clear h
    go_wp2_with fail
    replace x_b := x_b.asideD (b' := (ngB (od (cM X e)))) (A' := A1) (n' := n1) (c' := c1) (e' := (nE (cM X e) (cE e))) (g := w.heap.size) (by omega)
    replace x_r := x_r.asideD (b' := (ngB (od (cM X e)))) (A' := A1) (n' := n1) (c' := c1) (e' := (nE (cM X e) (cE e))) (g := w.heap.size) (by omega)
    replace h2 := h2.putD (b' := (ngB (od (cM X e)))) (A' := A1) (n' := n1) (c' := c1) (e' := (nE (cM X e) (cE e))) x_a
    replace zc := zc.putD (b' := (ngB (od (cM X e)))) (A' := A1) (n' := n1) (c' := c1) (e' := (nE (cM X e) (cE e))) x_a
    replace hb := put_belowD (g := w.heap.size) hb (by omega) (.bool (ngB (od (cM X e)))) (.slice A1 n1 c1) (.int .i64 (nE (cM X e) (cE e)))
    replace x_a := x_a.put (ngB (od (cM X e))) A1 n1 c1 (nE (cM X e) (cE e))
    clear q_a0 q_a1 f_a0 f_a1 q_a2 f_a2 q_b0 q_b1 f_b0 f_b1 q_b2 f_b2 q_r0 q_r1 f_r0 f_r1 q_r2 f_r2
    generalize ((v2.setCell ⟨w.heap.size, 0, none⟩ (.bool (ngB (od (cM X e))))).setCell ⟨w.heap.size, 1, none⟩ (.slice A1 n1 c1)).setCell ⟨w.heap.size, 2, none⟩ (.int .i64 (nE (cM X e) (cE e))) = v3 at *
    have q_a0 := x_a.c0; have q_a1 := x_a.c1; have f_a0 := x_a.fr 0; have f_a1 := x_a.fr 1; have q_a2 := x_a.c2; have f_a2 := x_a.fr 2
    have q_b0 := x_b.c0; have q_b1 := x_b.c1; have f_b0 := x_b.fr 0; have f_b1 := x_b.fr 1; have q_b2 := x_b.c2; have f_b2 := x_b.fr 2
    have q_r0 := x_r.c0; have q_r1 := x_r.c1; have f_r0 := x_r.fr 0; have f_r1 := x_r.fr 1; have q_r2 := x_r.c2; have f_r2 := x_r.fr 2
    with_reducible refine (counts_any h2 (by omega)).mono ?_
    rintro e v4 ⟨A3, n3, c3, rfl, zd, hb1⟩
    replace x_a := x_a.keep hb1
    replace x_b := x_b.keep hb1
    replace x_r := x_r.keep hb1
    replace h2 := h2.keep hb1
    replace zc := zc.keep hb1
    replace hb := bthen hb hb1
    clear hb1
    replace q_a0 := x_a.c0; replace q_a1 := x_a.c1; replace f_a0 := x_a.fr 0; replace f_a1 := x_a.fr 1; replace q_a2 := x_a.c2; replace f_a2 := x_a.fr 2
    replace q_b0 := x_b.c0; replace q_b1 := x_b.c1; replace f_b0 := x_b.fr 0; replace f_b1 := x_b.fr 1; replace q_b2 := x_b.c2; replace f_b2 := x_b.fr 2
    replace q_r0 := x_r.c0; replace q_r1 := x_r.c1; replace f_r0 := x_r.fr 0; replace f_r1 := x_r.fr 1; replace q_r2 := x_r.c2; replace f_r2 := x_r.fr 2
    clear h2
    go_wp2_with fail
    replace x_a := x_a.asideD (b' := (ngB (od (cM Y f)))) (A' := A3) (n' := n3) (c' := c3) (e' := (nE (cM Y f) (cE f))) (g := w.heap.size + 1) (by omega)
    replace x_r := x_r.asideD (b' := (ngB (od (cM Y f)))) (A' := A3) (n' := n3) (c' := c3) (e' := (nE (cM Y f) (cE f))) (g := w.heap.size + 1) (by omega)
    replace zc := zc.putD (b' := (ngB (od (cM Y f)))) (A' := A3) (n' := n3) (c' := c3) (e' := (nE (cM Y f) (cE f))) x_b
    replace zd := zd.putD (b' := (ngB (od (cM Y f)))) (A' := A3) (n' := n3) (c' := c3) (e' := (nE (cM Y f) (cE f))) x_b
    replace hb := put_belowD (g := w.heap.size + 1) hb (by omega) (.bool (ngB (od (cM Y f)))) (.slice A3 n3 c3) (.int .i64 (nE (cM Y f) (cE f)))
    replace x_b := x_b.put (ngB (od (cM Y f))) A3 n3 c3 (nE (cM Y f) (cE f))
    clear q_a0 q_a1 f_a0 f_a1 q_a2 f_a2 q_b0 q_b1 f_b0 f_b1 q_b2 f_b2 q_r0 q_r1 f_r0 f_r1 q_r2 f_r2
    generalize ((v4.setCell ⟨w.heap.size + 1, 0, none⟩ (.bool (ngB (od (cM Y f))))).setCell ⟨w.heap.size + 1, 1, none⟩ (.slice A3 n3 c3)).setCell ⟨w.heap.size + 1, 2, none⟩ (.int .i64 (nE (cM Y f) (cE f))) = v5 at *
    have q_a0 := x_a.c0; have q_a1 := x_a.c1; have f_a0 := x_a.fr 0; have f_a1 := x_a.fr 1; have q_a2 := x_a.c2; have f_a2 := x_a.fr 2
    have q_b0 := x_b.c0; have q_b1 := x_b.c1; have f_b0 := x_b.fr 0; have f_b1 := x_b.fr 1; have q_b2 := x_b.c2; have f_b2 := x_b.fr 2
    have q_r0 := x_r.c0; have q_r1 := x_r.c1; have f_r0 := x_r.fr 0; have f_r1 := x_r.fr 1; have q_r2 := x_r.c2; have f_r2 := x_r.fr 2
    go_region_held3 (fun w' => w'.cell? ⟨w.heap.size, 0, none⟩ = some (.bool (ngB (od (cM X e)))) ∧ w'.cell? ⟨w.heap.size, 1, none⟩ = some (.slice A1 n1 c1) ∧ w'.cell? ⟨w.heap.size, 2, none⟩ = some (.int .i64 (nE (cM X e) (cE e))) ∧ w'.cell? ⟨w.heap.size + 1, 0, none⟩ = some (.bool (ngB (od (cM Y f)))) ∧ w'.cell? ⟨w.heap.size + 1, 1, none⟩ = some (.slice A3 n3 c3) ∧ w'.cell? ⟨w.heap.size + 1, 2, none⟩ = some (.int .i64 (nE (cM Y f) (cE f))))
      (first | (with_reducible exact ⟨x_a.c0, x_a.c1, x_a.c2, x_b.c0, x_b.c1, x_b.c2⟩) | (with_reducible exact ⟨(x_a.aside (by omega)).c0, (x_a.aside (by omega)).c1, (x_a.aside (by omega)).c2, (x_b.aside (by omega)).c0, (x_b.aside (by omega)).c1, (x_b.aside (by omega)).c2⟩) | (with_reducible exact ⟨((x_a.aside (by omega)).aside (by omega)).c0, ((x_a.aside (by omega)).aside (by omega)).c1, ((x_a.aside (by omega)).aside (by omega)).c2, ((x_b.aside (by omega)).aside (by omega)).c0, ((x_b.aside (by omega)).aside (by omega)).c1, ((x_b.aside (by omega)).aside (by omega)).c2⟩) | (with_reducible exact ⟨(x_a.asideD (by omega)).c0, (x_a.asideD (by omega)).c1, (x_a.asideD (by omega)).c2, (x_b.asideD (by omega)).c0, (x_b.asideD (by omega)).c1, (x_b.asideD (by omega)).c2⟩) | (with_reducible exact ⟨((x_a.asideD (by omega)).asideD (by omega)).c0, ((x_a.asideD (by omega)).asideD (by omega)).c1, ((x_a.asideD (by omega)).asideD (by omega)).c2, ((x_b.asideD (by omega)).asideD (by omega)).c0, ((x_b.asideD (by omega)).asideD (by omega)).c1, ((x_b.asideD (by omega)).asideD (by omega)).c2⟩) | go_keep)
      (first | (go_at_call 55; (with_reducible refine (raised_any zc.drw.zr 0 (by omega) 280 (by omega) (by omega)).mono ?_); rintro e v6 ⟨A5, n5, c5, rfl, z5, hb1⟩; replace hb1 := undrew hb1; replace x_a := x_a.keep hb1; replace x_b := x_b.keep hb1; replace x_r := x_r.keep hb1; replace zc := zc.keep hb1; replace zd := zd.keep hb1; replace hb := bthen hb hb1; clear hb1; replace q_a0 := x_a.c0; replace q_a1 := x_a.c1; replace f_a0 := x_a.fr 0; replace f_a1 := x_a.fr 1; replace q_a2 := x_a.c2; replace f_a2 := x_a.fr 2; replace q_b0 := x_b.c0; replace q_b1 := x_b.c1; replace f_b0 := x_b.fr 0; replace f_b1 := x_b.fr 1; replace q_b2 := x_b.c2; replace f_b2 := x_b.fr 2; replace q_r0 := x_r.c0; replace q_r1 := x_r.c1; replace f_r0 := x_r.fr 0; replace f_r1 := x_r.fr 1; replace q_r2 := x_r.c2; replace f_r2 := x_r.fr 2; rw [HP.out] at z5 ⊢) | (go_at_call 55; (with_reducible refine (raised_any zd.zr (nE (cM Y f) (cE f) - nE (cM X e) (cE e)) (by omega) 280 (by omega) (by omega)).mono ?_); rintro e v7 ⟨A6, n6, c6, rfl, z6, hb1⟩; replace x_a := x_a.keep hb1; replace x_b := x_b.keep hb1; replace x_r := x_r.keep hb1; replace zc := zc.keep hb1; replace zd := zd.keep hb1; replace z5 := z5.keep hb1; replace hb := bthen hb hb1; clear hb1; replace q_a0 := x_a.c0; replace q_a1 := x_a.c1; replace f_a0 := x_a.fr 0; replace f_a1 := x_a.fr 1; replace q_a2 := x_a.c2; replace f_a2 := x_a.fr 2; replace q_b0 := x_b.c0; replace q_b1 := x_b.c1; replace f_b0 := x_b.fr 0; replace f_b1 := x_b.fr 1; replace q_b2 := x_b.c2; replace f_b2 := x_b.fr 2; replace q_r0 := x_r.c0; replace q_r1 := x_r.c1; replace f_r0 := x_r.fr 0; replace f_r1 := x_r.fr 1; replace q_r2 := x_r.c2; replace f_r2 := x_r.fr 2; rw [HQ.out] at z6 ⊢) | (go_at_call 54; (with_reducible refine (RAddZ_any z5.zr z6.zr 400 (by omega) (by omega) (by omega)).mono ?_); rintro e v8 ⟨A7, n7, c7, rfl, z7, hb1⟩; replace x_a := x_a.keep hb1; replace x_b := x_b.keep hb1; replace x_r := x_r.keep hb1; replace zc := zc.keep hb1; replace zd := zd.keep hb1; replace z5 := z5.keep hb1; replace z6 := z6.keep hb1; replace hb := bthen hb hb1; clear hb1; replace q_a0 := x_a.c0; replace q_a1 := x_a.c1; replace f_a0 := x_a.fr 0; replace f_a1 := x_a.fr 1; replace q_a2 := x_a.c2; replace f_a2 := x_a.fr 2; replace q_b0 := x_b.c0; replace q_b1 := x_b.c1; replace f_b0 := x_b.fr 0; replace f_b1 := x_b.fr 1; replace q_b2 := x_b.c2; replace f_b2 := x_b.fr 2; replace q_r0 := x_r.c0; replace q_r1 := x_r.c1; replace f_r0 := x_r.fr 0; replace f_r1 := x_r.fr 1; replace q_r2 := x_r.c2; replace f_r2 := x_r.fr 2) | (go_at_call 53; (with_reducible refine (plain_any z7.zr (nE (cM X e) (cE e)) (by omega) (by omega)).mono ?_); rintro e v9 ⟨A8, n8, c8, rfl, z8, hb1⟩; replace x_a := x_a.keep hb1; replace x_b := x_b.keep hb1; replace x_r := x_r.keep hb1; replace zc := zc.keep hb1; replace zd := zd.keep hb1; replace z5 := z5.keep hb1; replace z6 := z6.keep hb1; replace z7 := z7.keep hb1; replace hb := bthen hb hb1; clear hb1; replace q_a0 := x_a.c0; replace q_a1 := x_a.c1; replace f_a0 := x_a.fr 0; replace f_a1 := x_a.fr 1; replace q_a2 := x_a.c2; replace f_a2 := x_a.fr 2; replace q_b0 := x_b.c0; replace q_b1 := x_b.c1; replace f_b0 := x_b.fr 0; replace f_b1 := x_b.fr 1; replace q_b2 := x_b.c2; replace f_b2 := x_b.fr 2; replace q_r0 := x_r.c0; replace q_r1 := x_r.c1; replace f_r0 := x_r.fr 0; replace f_r1 := x_r.fr 1; replace q_r2 := x_r.c2; replace f_r2 := x_r.fr 2; rw [HREF.out.1] at z8 ⊢; rw [HREF.out.2]))
    go_wp2
    replace x_a := x_a.asideD (b' := (ngB (od (alP X e f + alQ Y e f)))) (A' := A8) (n' := n8) (c' := c8) (e' := (nE (alP X e f + alQ Y e f) (alE e f))) (g := w.heap.size + 1 + 1) (by omega)
    replace x_b := x_b.asideD (b' := (ngB (od (alP X e f + alQ Y e f)))) (A' := A8) (n' := n8) (c' := c8) (e' := (nE (alP X e f + alQ Y e f) (alE e f))) (g := w.heap.size + 1 + 1) (by omega)
    replace zc := zc.putD (b' := (ngB (od (alP X e f + alQ Y e f)))) (A' := A8) (n' := n8) (c' := c8) (e' := (nE (alP X e f + alQ Y e f) (alE e f))) x_r
    replace zd := zd.putD (b' := (ngB (od (alP X e f + alQ Y e f)))) (A' := A8) (n' := n8) (c' := c8) (e' := (nE (alP X e f + alQ Y e f) (alE e f))) x_r
    replace z5 := z5.putD (b' := (ngB (od (alP X e f + alQ Y e f)))) (A' := A8) (n' := n8) (c' := c8) (e' := (nE (alP X e f + alQ Y e f) (alE e f))) x_r
    replace z6 := z6.putD (b' := (ngB (od (alP X e f + alQ Y e f)))) (A' := A8) (n' := n8) (c' := c8) (e' := (nE (alP X e f + alQ Y e f) (alE e f))) x_r
    replace z7 := z7.putD (b' := (ngB (od (alP X e f + alQ Y e f)))) (A' := A8) (n' := n8) (c' := c8) (e' := (nE (alP X e f + alQ Y e f) (alE e f))) x_r
    replace z8 := z8.putD (b' := (ngB (od (alP X e f + alQ Y e f)))) (A' := A8) (n' := n8) (c' := c8) (e' := (nE (alP X e f + alQ Y e f) (alE e f))) x_r
    replace hb := put_belowD (g := w.heap.size + 1 + 1) hb (by omega) (.bool (ngB (od (alP X e f + alQ Y e f)))) (.slice A8 n8 c8) (.int .i64 (nE (alP X e f + alQ Y e f) (alE e f)))
    replace x_r := x_r.put (ngB (od (alP X e f + alQ Y e f))) A8 n8 c8 (nE (alP X e f + alQ Y e f) (alE e f))
    clear q_a0 q_a1 f_a0 f_a1 q_a2 f_a2 q_b0 q_b1 f_b0 f_b1 q_b2 f_b2 q_r0 q_r1 f_r0 f_r1 q_r2 f_r2
    generalize ((v9.setCell ⟨w.heap.size + 1 + 1, 0, none⟩ (.bool (ngB (od (alP X e f + alQ Y e f))))).setCell ⟨w.heap.size + 1 + 1, 1, none⟩ (.slice A8 n8 c8)).setCell ⟨w.heap.size + 1 + 1, 2, none⟩ (.int .i64 (nE (alP X e f + alQ Y e f) (alE e f))) = v10 at *
    have q_a0 := x_a.c0; have q_a1 := x_a.c1; have f_a0 := x_a.fr 0; have f_a1 := x_a.fr 1; have q_a2 := x_a.c2; have f_a2 := x_a.fr 2
    have q_b0 := x_b.c0; have q_b1 := x_b.c1; have f_b0 := x_b.fr 0; have f_b1 := x_b.fr 1; have q_b2 := x_b.c2; have f_b2 := x_b.fr 2
    have q_r0 := x_r.c0; have q_r1 := x_r.c1; have f_r0 := x_r.fr 0; have f_r1 := x_r.fr 1; have q_r2 := x_r.c2; have f_r2 := x_r.fr 2
    refine bodyPost_ret (v := .agg #[.bool (ngB (od (alP X e f + alQ Y e f))), .slice A8 n8 c8, .int .i64 (nE (alP X e f + alQ Y e f) (alE e f))]) (by simp [results, Tryd.results23, go_sem, q_r0, q_r1, q_r2]) rfl ?_
    exact ⟨_, _, _, rfl, z8, hb⟩

set_option maxRecDepth 100000 in
set_option maxHeartbeats 8000000 in
theorem DRSub_any {b b2 : Bool} {A A2 : Option Addr} {n c n2 c2 : Nat} {X Y e f : Int} {j j2 : Nat} {w : World} (h : Zr w b A n c X j) (h2 : Zr w b2 A2 n2 c2 Y j2) (hj : j ≤ 12) (hj2 : j2 ≤ 12) :
    Calls Tryd.prog 25 #[.agg #[.bool b, .slice A n c, .int .i64 e], .agg #[.bool b2, .slice A2 n2 c2, .int .i64 f]] w (OutD w (od (alP X e f - alQ Y e f)) (nE (alP X e f - alQ Y e f) (alE e f)) 400) := by
  have hr := nE_rng (h.si.counted (e := e)) (cE_in e)
  have hr2 := nE_rng (h2.si.counted (e := f)) (cE_in f)
  have hw0 : IntKind.i64.wrap 0 = 0 := rfl
  rcases Int.lt_or_le (nE (cM Y f) (cE f)) (nE (cM X e) (cE e)) with hlt | hle
  · have href := sub_ref (X := X) (Y := Y) (e := e) (f := f) (m := nE (cM Y f) (cE f)) (by omega) (by omega) (by omega)
    rw [Int.sub_self] at href
    obtain ⟨PP, hP⟩ : ∃ PP, od (cM X e) * 2 ^ ((nE (cM X e) (cE e) - nE (cM Y f) (cE f)) : Int).toNat = PP := ⟨_, rfl⟩
    obtain ⟨QQ, hQ⟩ : ∃ QQ, od (cM Y f) * 2 ^ (0 : Int).toNat = QQ := ⟨_, rfl⟩
    rw [hP, hQ] at href
    have HREF := Lib.hid href; have HP := Lib.hid hP; have HQ := Lib.hid hQ; clear href hP hQ
    have hw1 : IntKind.i64.wrap (nE (cM X e) (cE e) - nE (cM Y f) (cE f)) = (nE (cM X e) (cE e) - nE (cM Y f) (cE f)) := IntWalk.i64_in _ ⟨by omega, by omega⟩
    go_enter Tryd.func25, Tryd.ntmps25
    go_wp2_with fail
    have x_a : Dx (w.alloc (.cells #[.bool b, .slice A n c, .int .i64 e] 26)) (w.heap.size) b A n c e := by have := Dx.new w b A n c e; simpa using this
    replace x_a := x_a.alloc (.cells #[.bool b2, .slice A2 n2 c2, .int .i64 f] 26)
    have x_b : Dx ((w.alloc (.cells #[.bool b, .slice A n c, .int .i64 e] 26)).alloc (.cells #[.bool b2, .slice A2 n2 c2, .int .i64 f] 26)) (w.heap.size + 1) b2 A2 n2 c2 f := by have := Dx.new (w.alloc (.cells #[.bool b, .slice A n c, .int .i64 e] 26)) b2 A2 n2 c2 f; simpa using this
    replace x_a := x_a.alloc (.cells #[.bool false, .slice none 0 0, .int .i64 0] 26)
    replace x_b := x_b.alloc (.cells #[.bool false, .slice none 0 0, .int .i64 0] 26)
    have x_r : Dx (((w.alloc (.cells #[.bool b, .slice A n c, .int .i64 e] 26)).alloc (.cells #[.bool b2, .slice A2 n2 c2, .int .i64 f] 26)).alloc (.cells #[.bool false, .slice none 0 0, .int .i64 0] 26)) (w.heap.size + 1 + 1) false none 0 0 0 := by have := Dx.new ((w.alloc (.cells #[.bool b, .slice A n c, .int .i64 e] 26)).alloc (.cells #[.bool b2, .slice A2 n2 c2, .int .i64 f] 26)) false none 0 0 0; simpa using this
    have hb : Below w.heap.size w (((w.alloc (.cells #[.bool b, .slice A n c, .int .i64 e] 26)).alloc (.cells #[.bool b2, .slice A2 n2 c2, .int .i64 f] 26)).alloc (.cells #[.bool false, .slice none 0 0, .int .i64 0] 26)) := (Below.alloc (Below.alloc (Below.alloc (Below.refl w.heap.size w) (by simp) (.cells #[.bool b, .slice A n c, .int .i64 e] 26)) (by simp) (.cells #[.bool b2, .slice A2 n2 c2, .int .i64 f] 26)) (by simp; omega) (.cells #[.bool false, .slice none 0 0, .int .i64 0] 26))
    generalize ((w.alloc (.cells #[.bool b, .slice A n c, .int .i64 e] 26)).alloc (.cells #[.bool b2, .slice A2 n2 c2, .int .i64 f] 26)).alloc (.cells #[.bool false, .slice none 0 0, .int .i64 0] 26) = v1 at *
    replace h := h.keep hb
    replace h2 := h2.keep hb
    have q_a0 := x_a.c0; have q_a1 := x_a.c1; have f_a0 := x_a.fr 0; have f_a1 := x_a.fr 1; have q_a2 := x_a.c2; have f_a2 := x_a.fr 2
    have q_b0 := x_b.c0; have q_b1 := x_b.c1; have f_b0 := x_b.fr 0; have f_b1 := x_b.fr 1; have q_b2 := x_b.c2; have f_b2 := x_b.fr 2
    have q_r0 := x_r.c0; have q_r1 := x_r.c1; have f_r0 := x_r.fr 0; have f_r1 := x_r.fr 1; have q_r2 := x_r.c2; have f_r2 := x_r.fr 2
    go_wp2_with fail
    with_reducible refine (counts_any h2 (by omega)).mono ?_
    rintro e v2 ⟨A3, n3, c3, rfl, zd, hb1⟩
    replace x_a := x_a.keep hb1
    replace x_b := x_b.keep hb1
    replace x_r := x_r.keep hb1
    replace h := h.keep hb1
    replace h2 := h2.keep hb1
    replace hb := bthen hb hb1
    clear hb1
    replace q_a0 := x_a.c0; replace q_a1 := x_a.c1; replace f_a0 := x_a.fr 0; replace f_a1 := x_a.fr 1; replace q_a2 := x_a.c2; replace f_a2 := x_a.fr 2
    replace q_b0 := x_b.c0; replace q_b1 := x_b.c1; replace f_b0 := x_b.fr 0; replace f_b1 := x_b.fr 1; replace q_b2 := x_b.c2; replace f_b2 := x_b.fr 2
    replace q_r0 := x_r.c0; replace q_r1 := x_r.c1; replace f_r0 := x_r.fr 0; replace f_r1 := x_r.fr 1; replace q_r2 := x_r.c2; replace f_r2 := x_r.fr 2
    clear h2
    go_wp2_with fail
    replace x_a := x_a.asideD (b' := (ngB (od (cM Y f)))) (A' := A3) (n' := n3) (c' := c3) (e' := (nE (cM Y f) (cE f))) (g := w.heap.size + 1) (by omega)
    replace x_r := x_r.asideD (b' := (ngB (od (cM Y f)))) (A' := A3) (n' := n3) (c' := c3) (e' := (nE (cM Y f) (cE f))) (g := w.heap.size + 1) (by omega)
    replace h := h.putD (b' := (ngB (od (cM Y f)))) (A' := A3) (n' := n3) (c' := c3) (e' := (nE (cM Y f) (cE f))) x_b
    replace zd := zd.putD (b' := (ngB (od (cM Y f)))) (A' := A3) (n' := n3) (c' := c3) (e' := (nE (cM Y f) (cE f))) x_b
    replace hb := put_belowD (g := w.heap.size + 1) hb (by omega) (.bool (ngB (od (cM Y f)))) (.slice A3 n3 c3) (.int .i64 (nE (cM Y f) (cE f)))
    replace x_b := x_b.put (ngB (od (cM Y f))) A3 n3 c3 (nE (cM Y f) (cE f))
    clear q_a0 q_a1 f_a0 f_a1 q_a2 f_a2 q_b0 q_b1 f_b0 f_b1 q_b2 f_b2 q_r0 q_r1 f_r0 f_r1 q_r2 f_r2
    generalize ((v2.setCell ⟨w.heap.size + 1, 0, none⟩ (.bool (ngB (od (cM Y f))))).setCell ⟨w.heap.size + 1, 1, none⟩ (.slice A3 n3 c3)).setCell ⟨w.heap.size + 1, 2, none⟩ (.int .i64 (nE (cM Y f) (cE f))) = v3 at *
    have q_a0 := x_a.c0; have q_a1 := x_a.c1; have f_a0 := x_a.fr 0; have f_a1 := x_a.fr 1; have q_a2 := x_a.c2; have f_a2 := x_a.fr 2
    have q_b0 := x_b.c0; have q_b1 := x_b.c1; have f_b0 := x_b.fr 0; have f_b1 := x_b.fr 1; have q_b2 := x_b.c2; have f_b2 := x_b.fr 2
    have q_r0 := x_r.c0; have q_r1 := x_r.c1; have f_r0 := x_r.fr 0; have f_r1 := x_r.fr 1; have q_r2 := x_r.c2; have f_r2 := x_r.fr 2
    with_reducible refine (counts_any h (by omega)).mono ?_
    rintro e v4 ⟨A1, n1, c1, rfl, zc, hb1⟩
    replace x_a := x_a.keep hb1
    replace x_b := x_b.keep hb1
    replace x_r := x_r.keep hb1
    replace h := h.keep hb1
    replace zd := zd.keep hb1
    replace hb := bthen hb hb1
    clear hb1
    replace q_a0 := x_a.c0; replace q_a1 := x_a.c1; replace f_a0 := x_a.fr 0; replace f_a1 := x_a.fr 1; replace q_a2 := x_a.c2; replace f_a2 := x_a.fr 2
    replace q_b0 := x_b.c0; replace q_b1 := x_b.c1; replace f_b0 := x_b.fr 0; replace f_b1 := x_b.fr 1; replace q_b2 := x_b.c2; replace f_b2 := x_b.fr 2
    replace q_r0 := x_r.c0; replace q_r1 := x_r.c1; replace f_r0 := x_r.fr 0; replace f_r1 := x_r.fr 1; replace q_r2 := x_r.c2; replace f_r2 := x_r.fr 2
    clear h
    go_wp2_with fail
    replace x_b := x_b.asideD (b' := (ngB (od (cM X e)))) (A' := A1) (n' := n1) (c' := c1) (e' := (nE (cM X e) (cE e))) (g := w.heap.size) (by omega)
    replace x_r := x_r.asideD (b' := (ngB (od (cM X e)))) (A' := A1) (n' := n1) (c' := c1) (e' := (nE (cM X e) (cE e))) (g := w.heap.size) (by omega)
    replace zd := zd.putD (b' := (ngB (od (cM X e)))) (A' := A1) (n' := n1) (c' := c1) (e' := (nE (cM X e) (cE e))) x_a
    replace zc := zc.putD (b' := (ngB (od (cM X e)))) (A' := A1) (n' := n1) (c' := c1) (e' := (nE (cM X e) (cE e))) x_a
    replace hb := put_belowD (g := w.heap.size) hb (by omega) (.bool (ngB (od (cM X e)))) (.slice A1 n1 c1) (.int .i64 (nE (cM X e) (cE e)))
    replace x_a := x_a.put (ngB (od (cM X e))) A1 n1 c1 (nE (cM X e) (cE e))
    clear q_a0 q_a1 f_a0 f_a1 q_a2 f_a2 q_b0 q_b1 f_b0 f_b1 q_b2 f_b2 q_r0 q_r1 f_r0 f_r1 q_r2 f_r2
    generalize ((v4.setCell ⟨w.heap.size, 0, none⟩ (.bool (ngB (od (cM X e))))).setCell ⟨w.heap.size, 1, none⟩ (.slice A1 n1 c1)).setCell ⟨w.heap.size, 2, none⟩ (.int .i64 (nE (cM X e) (cE e))) = v5 at *
    have q_a0 := x_a.c0; have q_a1 := x_a.c1; have f_a0 := x_a.fr 0; have f_a1 := x_a.fr 1; have q_a2 := x_a.c2; have f_a2 := x_a.fr 2
    have q_b0 := x_b.c0; have q_b1 := x_b.c1; have f_b0 := x_b.fr 0; have f_b1 := x_b.fr 1; have q_b2 := x_b.c2; have f_b2 := x_b.fr 2
    have q_r0 := x_r.c0; have q_r1 := x_r.c1; have f_r0 := x_r.fr 0; have f_r1 := x_r.fr 1; have q_r2 := x_r.c2; have f_r2 := x_r.fr 2
    go_region_held3 (fun w' => w'.cell? ⟨w.heap.size, 0, none⟩ = some (.bool (ngB (od (cM X e)))) ∧ w'.cell? ⟨w.heap.size, 1, none⟩ = some (.slice A1 n1 c1) ∧ w'.cell? ⟨w.heap.size, 2, none⟩ = some (.int .i64 (nE (cM X e) (cE e))) ∧ w'.cell? ⟨w.heap.size + 1, 0, none⟩ = some (.bool (ngB (od (cM Y f)))) ∧ w'.cell? ⟨w.heap.size + 1, 1, none⟩ = some (.slice A3 n3 c3) ∧ w'.cell? ⟨w.heap.size + 1, 2, none⟩ = some (.int .i64 (nE (cM Y f) (cE f))))
      (first | (with_reducible exact ⟨x_a.c0, x_a.c1, x_a.c2, x_b.c0, x_b.c1, x_b.c2⟩) | (with_reducible exact ⟨(x_a.aside (by omega)).c0, (x_a.aside (by omega)).c1, (x_a.aside (by omega)).c2, (x_b.aside (by omega)).c0, (x_b.aside (by omega)).c1, (x_b.aside (by omega)).c2⟩) | (with_reducible exact ⟨((x_a.aside (by omega)).aside (by omega)).c0, ((x_a.aside (by omega)).aside (by omega)).c1, ((x_a.aside (by omega)).aside (by omega)).c2, ((x_b.aside (by omega)).aside (by omega)).c0, ((x_b.aside (by omega)).aside (by omega)).c1, ((x_b.aside (by omega)).aside (by omega)).c2⟩) | (with_reducible exact ⟨(x_a.asideD (by omega)).c0, (x_a.asideD (by omega)).c1, (x_a.asideD (by omega)).c2, (x_b.asideD (by omega)).c0, (x_b.asideD (by omega)).c1, (x_b.asideD (by omega)).c2⟩) | (with_reducible exact ⟨((x_a.asideD (by omega)).asideD (by omega)).c0, ((x_a.asideD (by omega)).asideD (by omega)).c1, ((x_a.asideD (by omega)).asideD (by omega)).c2, ((x_b.asideD (by omega)).asideD (by omega)).c0, ((x_b.asideD (by omega)).asideD (by omega)).c1, ((x_b.asideD (by omega)).asideD (by omega)).c2⟩) | go_keep)
      (first | (go_at_call 55; (with_reducible refine (raised_any zc.drw.zr (nE (cM X e) (cE e) - nE (cM Y f) (cE f)) (by omega) 280 (by omega) (by omega)).mono ?_); rintro e v6 ⟨A5, n5, c5, rfl, z5, hb1⟩; replace hb1 := undrew hb1; replace x_a := x_a.keep hb1; replace x_b := x_b.keep hb1; replace x_r := x_r.keep hb1; replace zd := zd.keep hb1; replace zc := zc.keep hb1; replace hb := bthen hb hb1; clear hb1; replace q_a0 := x_a.c0; replace q_a1 := x_a.c1; replace f_a0 := x_a.fr 0; replace f_a1 := x_a.fr 1; replace q_a2 := x_a.c2; replace f_a2 := x_a.fr 2; replace q_b0 := x_b.c0; replace q_b1 := x_b.c1; replace f_b0 := x_b.fr 0; replace f_b1 := x_b.fr 1; replace q_b2 := x_b.c2; replace f_b2 := x_b.fr 2; replace q_r0 := x_r.c0; replace q_r1 := x_r.c1; replace f_r0 := x_r.fr 0; replace f_r1 := x_r.fr 1; replace q_r2 := x_r.c2; replace f_r2 := x_r.fr 2; rw [HP.out] at z5 ⊢) | (go_at_call 55; (with_reducible refine (raised_any zd.zr 0 (by omega) 280 (by omega) (by omega)).mono ?_); rintro e v7 ⟨A6, n6, c6, rfl, z6, hb1⟩; replace x_a := x_a.keep hb1; replace x_b := x_b.keep hb1; replace x_r := x_r.keep hb1; replace zd := zd.keep hb1; replace zc := zc.keep hb1; replace z5 := z5.keep hb1; replace hb := bthen hb hb1; clear hb1; replace q_a0 := x_a.c0; replace q_a1 := x_a.c1; replace f_a0 := x_a.fr 0; replace f_a1 := x_a.fr 1; replace q_a2 := x_a.c2; replace f_a2 := x_a.fr 2; replace q_b0 := x_b.c0; replace q_b1 := x_b.c1; replace f_b0 := x_b.fr 0; replace f_b1 := x_b.fr 1; replace q_b2 := x_b.c2; replace f_b2 := x_b.fr 2; replace q_r0 := x_r.c0; replace q_r1 := x_r.c1; replace f_r0 := x_r.fr 0; replace f_r1 := x_r.fr 1; replace q_r2 := x_r.c2; replace f_r2 := x_r.fr 2; rw [HQ.out] at z6 ⊢) | (go_at_call 56; (with_reducible refine (RSubZ_any z5.zr z6.zr 400 (by omega) (by omega) (by omega)).mono ?_); rintro e v8 ⟨A7, n7, c7, rfl, z7, hb1⟩; replace x_a := x_a.keep hb1; replace x_b := x_b.keep hb1; replace x_r := x_r.keep hb1; replace zd := zd.keep hb1; replace zc := zc.keep hb1; replace z5 := z5.keep hb1; replace z6 := z6.keep hb1; replace hb := bthen hb hb1; clear hb1; replace q_a0 := x_a.c0; replace q_a1 := x_a.c1; replace f_a0 := x_a.fr 0; replace f_a1 := x_a.fr 1; replace q_a2 := x_a.c2; replace f_a2 := x_a.fr 2; replace q_b0 := x_b.c0; replace q_b1 := x_b.c1; replace f_b0 := x_b.fr 0; replace f_b1 := x_b.fr 1; replace q_b2 := x_b.c2; replace f_b2 := x_b.fr 2; replace q_r0 := x_r.c0; replace q_r1 := x_r.c1; replace f_r0 := x_r.fr 0; replace f_r1 := x_r.fr 1; replace q_r2 := x_r.c2; replace f_r2 := x_r.fr 2) | (go_at_call 53; (with_reducible refine (plain_any z7.zr (nE (cM Y f) (cE f)) (by omega) (by omega)).mono ?_); rintro e v9 ⟨A8, n8, c8, rfl, z8, hb1⟩; replace x_a := x_a.keep hb1; replace x_b := x_b.keep hb1; replace x_r := x_r.keep hb1; replace zd := zd.keep hb1; replace zc := zc.keep hb1; replace z5 := z5.keep hb1; replace z6 := z6.keep hb1; replace z7 := z7.keep hb1; replace hb := bthen hb hb1; clear hb1; replace q_a0 := x_a.c0; replace q_a1 := x_a.c1; replace f_a0 := x_a.fr 0; replace f_a1 := x_a.fr 1; replace q_a2 := x_a.c2; replace f_a2 := x_a.fr 2; replace q_b0 := x_b.c0; replace q_b1 := x_b.c1; replace f_b0 := x_b.fr 0; replace f_b1 := x_b.fr 1; replace q_b2 := x_b.c2; replace f_b2 := x_b.fr 2; replace q_r0 := x_r.c0; replace q_r1 := x_r.c1; replace f_r0 := x_r.fr 0; replace f_r1 := x_r.fr 1; replace q_r2 := x_r.c2; replace f_r2 := x_r.fr 2; rw [HREF.out.1] at z8 ⊢; rw [HREF.out.2]))
    go_wp2
    replace x_a := x_a.asideD (b' := (ngB (od (alP X e f - alQ Y e f)))) (A' := A8) (n' := n8) (c' := c8) (e' := (nE (alP X e f - alQ Y e f) (alE e f))) (g := w.heap.size + 1 + 1) (by omega)
    replace x_b := x_b.asideD (b' := (ngB (od (alP X e f - alQ Y e f)))) (A' := A8) (n' := n8) (c' := c8) (e' := (nE (alP X e f - alQ Y e f) (alE e f))) (g := w.heap.size + 1 + 1) (by omega)
    replace zd := zd.putD (b' := (ngB (od (alP X e f - alQ Y e f)))) (A' := A8) (n' := n8) (c' := c8) (e' := (nE (alP X e f - alQ Y e f) (alE e f))) x_r
    replace zc := zc.putD (b' := (ngB (od (alP X e f - alQ Y e f)))) (A' := A8) (n' := n8) (c' := c8) (e' := (nE (alP X e f - alQ Y e f) (alE e f))) x_r
    replace z5 := z5.putD (b' := (ngB (od (alP X e f - alQ Y e f)))) (A' := A8) (n' := n8) (c' := c8) (e' := (nE (alP X e f - alQ Y e f) (alE e f))) x_r
    replace z6 := z6.putD (b' := (ngB (od (alP X e f - alQ Y e f)))) (A' := A8) (n' := n8) (c' := c8) (e' := (nE (alP X e f - alQ Y e f) (alE e f))) x_r
    replace z7 := z7.putD (b' := (ngB (od (alP X e f - alQ Y e f)))) (A' := A8) (n' := n8) (c' := c8) (e' := (nE (alP X e f - alQ Y e f) (alE e f))) x_r
    replace z8 := z8.putD (b' := (ngB (od (alP X e f - alQ Y e f)))) (A' := A8) (n' := n8) (c' := c8) (e' := (nE (alP X e f - alQ Y e f) (alE e f))) x_r
    replace hb := put_belowD (g := w.heap.size + 1 + 1) hb (by omega) (.bool (ngB (od (alP X e f - alQ Y e f)))) (.slice A8 n8 c8) (.int .i64 (nE (alP X e f - alQ Y e f) (alE e f)))
    replace x_r := x_r.put (ngB (od (alP X e f - alQ Y e f))) A8 n8 c8 (nE (alP X e f - alQ Y e f) (alE e f))
    clear q_a0 q_a1 f_a0 f_a1 q_a2 f_a2 q_b0 q_b1 f_b0 f_b1 q_b2 f_b2 q_r0 q_r1 f_r0 f_r1 q_r2 f_r2
    generalize ((v9.setCell ⟨w.heap.size + 1 + 1, 0, none⟩ (.bool (ngB (od (alP X e f - alQ Y e f))))).setCell ⟨w.heap.size + 1 + 1, 1, none⟩ (.slice A8 n8 c8)).setCell ⟨w.heap.size + 1 + 1, 2, none⟩ (.int .i64 (nE (alP X e f - alQ Y e f) (alE e f))) = v10 at *
    have q_a0 := x_a.c0; have q_a1 := x_a.c1; have f_a0 := x_a.fr 0; have f_a1 := x_a.fr 1; have q_a2 := x_a.c2; have f_a2 := x_a.fr 2
    have q_b0 := x_b.c0; have q_b1 := x_b.c1; have f_b0 := x_b.fr 0; have f_b1 := x_b.fr 1; have q_b2 := x_b.c2; have f_b2 := x_b.fr 2
    have q_r0 := x_r.c0; have q_r1 := x_r.c1; have f_r0 := x_r.fr 0; have f_r1 := x_r.fr 1; have q_r2 := x_r.c2; have f_r2 := x_r.fr 2
    refine bodyPost_ret (v := .agg #[.bool (ngB (od (alP X e f - alQ Y e f))), .slice A8 n8 c8, .int .i64 (nE (alP X e f - alQ Y e f) (alE e f))]) (by simp [results, Tryd.results25, go_sem, q_r0, q_r1, q_r2]) rfl ?_
    exact ⟨_, _, _, rfl, z8, hb⟩
  · have href := sub_ref (X := X) (Y := Y) (e := e) (f := f) (m := nE (cM X e) (cE e)) (by omega) (by omega) (by omega)
    rw [Int.sub_self] at href
    obtain ⟨PP, hP⟩ : ∃ PP, od (cM X e) * 2 ^ (0 : Int).toNat = PP := ⟨_, rfl⟩
    obtain ⟨QQ, hQ⟩ : ∃ QQ, od (cM Y f) * 2 ^ ((nE (cM Y f) (cE f) - nE (cM X e) (cE e)) : Int).toNat = QQ := ⟨_, rfl⟩
    rw [hP, hQ] at href
    have HREF := Lib.hid href; have HP := Lib.hid hP; have HQ := Lib.hid hQ; clear href hP hQ
    have hw1 : IntKind.i64.wrap (nE (cM Y f) (cE f) - nE (cM X e) (cE e)) = (nE (cM Y f) (cE f) - nE (cM X e) (cE e)) := IntWalk.i64_in _ ⟨by omega, by omega⟩
    go_enter Tryd.func25, Tryd.ntmps25
    go_wp2_with fail
    have x_a : Dx (w.alloc (.cells #[.bool b, .slice A n c, .int .i64 e] 26)) (w.heap.size) b A n c e := by have := Dx.new w b A n c e; simpa using this
    replace x_a := x_a.alloc (.cells #[.bool b2, .slice A2 n2 c2, .int .i64 f] 26)
    have x_b : Dx ((w.alloc (.cells #[.bool b, .slice A n c, .int .i64 e] 26)).alloc (.cells #[.bool b2, .slice A2 n2 c2, .int .i64 f] 26)) (w.heap.size + 1) b2 A2 n2 c2 f := by have := Dx.new (w.alloc (.cells #[.bool b, .slice A n c, .int .i64 e] 26)) b2 A2 n2 c2 f; simpa using this
    replace x_a := x_a.alloc (.cells #[.bool false, .slice none 0 0, .int .i64 0] 26)
    replace x_b := x_b.alloc (.cells #[.bool false, .slice none 0 0, .int .i64 0] 26)
    have x_r : Dx (((w.alloc (.cells #[.bool b, .slice A n c, .int .i64 e] 26)).alloc (.cells #[.bool b2, .slice A2 n2 c2, .int .i64 f] 26)).alloc (.cells #[.bool false, .slice none 0 0, .int .i64 0] 26)) (w.heap.size + 1 + 1) false none 0 0 0 := by have := Dx.new ((w.alloc (.cells #[.bool b, .slice A n c, .int .i64 e] 26)).alloc (.cells #[.bool b2, .slice A2 n2 c2, .int .i64 f] 26)) false none 0 0 0; simpa using this
    have hb : Below w.heap.size w (((w.alloc (.cells #[.bool b, .slice A n c, .int .i64 e] 26)).alloc (.cells #[.bool b2, .slice A2 n2 c2, .int .i64 f] 26)).alloc (.cells #[.bool false, .slice none 0 0, .int .i64 0] 26)) := (Below.alloc (Below.alloc (Below.alloc (Below.refl w.heap.size w) (by simp) (.cells #[.bool b, .slice A n c, .int .i64 e] 26)) (by simp) (.cells #[.bool b2, .slice A2 n2 c2, .int .i64 f] 26)) (by simp; omega) (.cells #[.bool false, .slice none 0 0, .int .i64 0] 26))
    generalize ((w.alloc (.cells #[.bool b, .slice A n c, .int .i64 e] 26)).alloc (.cells #[.bool b2, .slice A2 n2 c2, .int .i64 f] 26)).alloc (.cells #[.bool false, .slice none 0 0, .int .i64 0] 26) = v1 at *
    replace h := h.keep hb
    replace h2 := h2.keep hb
    have q_a0 := x_a.c0; have q_a1 := x_a.c1; have f_a0 := x_a.fr 0; have f_a1 := x_a.fr 1; have q_a2 := x_a.c2; have f_a2 := x_a.fr 2
    have q_b0 := x_b.c0; have q_b1 := x_b.c1; have f_b0 := x_b.fr 0; have f_b1 := x_b.fr 1; have q_b2 := x_b.c2; have f_b2 := x_b.fr 2
    have q_r0 := x_r.c0; have q_r1 := x_r.c1; have f_r0 := x_r.fr 0; have f_r1 := x_r.fr 1; have q_r2 := x_r.c2; have f_r2 := x_r.fr 2
    go_wp2_with fail
    with_reducible refine (counts_any h2 (by omega)).mono ?_
    rintro e v2 ⟨A3, n3, c3, rfl, zd, hb1⟩
    replace x_a := x_a.keep hb1
    replace x_b := x_b.keep hb1
    replace x_r := x_r.keep hb1
    replace h := h.keep hb1
    replace h2 := h2.keep hb1
    replace hb := bthen hb hb1
    clear hb1
    replace q_a0 := x_a.c0; replace q_a1 := x_a.c1; replace f_a0 := x_a.fr 0; replace f_a1 := x_a.fr 1; replace q_a2 := x_a.c2; replace f_a2 := x_a.fr 2
    replace q_b0 := x_b.c0; replace q_b1 := x_b.c1; replace f_b0 := x_b.fr 0; replace f_b1 := x_b.fr 1; replace q_b2 := x_b.c2; replace f_b2 := x_b.fr 2
    replace q_r0 := x_r.c0; replace q_r1 := x_r.c1; replace f_r0 := x_r.fr 0; replace f_r1 := x_r.fr 1; replace q_r2 := x_r.c2; replace f_r2 := x_r.fr 2
    clear h2
    go_wp2_with fail
    replace x_a := x_a.asideD (b' := (ngB (od (cM Y f)))) (A' := A3) (n' := n3) (c' := c3) (e' := (nE (cM Y f) (cE f))) (g := w.heap.size + 1) (by omega)
    replace x_r := x_r.asideD (b' := (ngB (od (cM Y f)))) (A' := A3) (n' := n3) (c' := c3) (e' := (nE (cM Y f) (cE f))) (g := w.heap.size + 1) (by omega)
    replace h := h.putD (b' := (ngB (od (cM Y f)))) (A' := A3) (n' := n3) (c' := c3) (e' := (nE (cM Y f) (cE f))) x_b
    replace zd := zd.putD (b' := (ngB (od (cM Y f)))) (A' := A3) (n' := n3) (c' := c3) (e' := (nE (cM Y f) (cE f))) x_b
    replace hb := put_belowD (g := w.heap.size + 1) hb (by omega) (.bool (ngB (od (cM Y f)))) (.slice A3 n3 c3) (.int .i64 (nE (cM Y f) (cE f)))
    replace x_b := x_b.put (ngB (od (cM Y f))) A3 n3 c3 (nE (cM Y f) (cE f))
    clear q_a0 q_a1 f_a0 f_a1 q_a2 f_a2 q_b0 q_b1 f_b0 f_b1 q_b2 f_b2 q_r0 q_r1 f_r0 f_r1 q_r2 f_r2
    generalize ((v2.setCell ⟨w.heap.size + 1, 0, none⟩ (.bool (ngB (od (cM Y f))))).setCell ⟨w.heap.size + 1, 1, none⟩ (.slice A3 n3 c3)).setCell ⟨w.heap.size + 1, 2, none⟩ (.int .i64 (nE (cM Y f) (cE f))) = v3 at *
    have q_a0 := x_a.c0; have q_a1 := x_a.c1; have f_a0 := x_a.fr 0; have f_a1 := x_a.fr 1; have q_a2 := x_a.c2; have f_a2 := x_a.fr 2
    have q_b0 := x_b.c0; have q_b1 := x_b.c1; have f_b0 := x_b.fr 0; have f_b1 := x_b.fr 1; have q_b2 := x_b.c2; have f_b2 := x_b.fr 2
    have q_r0 := x_r.c0; have q_r1 := x_r.c1; have f_r0 := x_r.fr 0; have f_r1 := x_r.fr 1; have q_r2 := x_r.c2; have f_r2 := x_r.fr 2
    with_reducible refine (counts_any h (by omega)).mono ?_
    rintro e v4 ⟨A1, n1, c1, rfl, zc, hb1⟩
    replace x_a := x_a.keep hb1
    replace x_b := x_b.keep hb1
    replace x_r := x_r.keep hb1
    replace h := h.keep hb1
    replace zd := zd.keep hb1
    replace hb := bthen hb hb1
    clear hb1
    replace q_a0 := x_a.c0; replace q_a1 := x_a.c1; replace f_a0 := x_a.fr 0; replace f_a1 := x_a.fr 1; replace q_a2 := x_a.c2; replace f_a2 := x_a.fr 2
    replace q_b0 := x_b.c0; replace q_b1 := x_b.c1; replace f_b0 := x_b.fr 0; replace f_b1 := x_b.fr 1; replace q_b2 := x_b.c2; replace f_b2 := x_b.fr 2
    replace q_r0 := x_r.c0; replace q_r1 := x_r.c1; replace f_r0 := x_r.fr 0; replace f_r1 := x_r.fr 1; replace q_r2 := x_r.c2; replace f_r2 := x_r.fr 2
    clear h
    go_wp2_with fail
    replace x_b := x_b.asideD (b' := (ngB (od (cM X e)))) (A' := A1) (n' := n1) (c' := c1) (e' := (nE (cM X e) (cE e))) (g := w.heap.size) (by omega)
    replace x_r := x_r.asideD (b' := (ngB (od (cM X e)))) (A' := A1) (n' := n1) (c' := c1) (e' := (nE (cM X e) (cE e))) (g := w.heap.size) (by omega)
    replace zd := zd.putD (b' := (ngB (od (cM X e)))) (A' := A1) (n' := n1) (c' := c1) (e' := (nE (cM X e) (cE e))) x_a
    replace zc := zc.putD (b' := (ngB (od (cM X e)))) (A' := A1) (n' := n1) (c' := c1) (e' := (nE (cM X e) (cE e))) x_a
    replace hb := put_belowD (g := w.heap.size) hb (by omega) (.bool (ngB (od (cM X e)))) (.slice A1 n1 c1) (.int .i64 (nE (cM X e) (cE e)))
    replace x_a := x_a.put (ngB (od (cM X e))) A1 n1 c1 (nE (cM X e) (cE e))
    clear q_a0 q_a1 f_a0 f_a1 q_a2 f_a2 q_b0 q_b1 f_b0 f_b1 q_b2 f_b2 q_r0 q_r1 f_r0 f_r1 q_r2 f_r2
    generalize ((v4.setCell ⟨w.heap.size, 0, none⟩ (.bool (ngB (od (cM X e))))).setCell ⟨w.heap.size, 1, none⟩ (.slice A1 n1 c1)).setCell ⟨w.heap.size, 2, none⟩ (.int .i64 (nE (cM X e) (cE e))) = v5 at *
    have q_a0 := x_a.c0; have q_a1 := x_a.c1; have f_a0 := x_a.fr 0; have f_a1 := x_a.fr 1; have q_a2 := x_a.c2; have f_a2 := x_a.fr 2
    have q_b0 := x_b.c0; have q_b1 := x_b.c1; have f_b0 := x_b.fr 0; have f_b1 := x_b.fr 1; have q_b2 := x_b.c2; have f_b2 := x_b.fr 2
    have q_r0 := x_r.c0; have q_r1 := x_r.c1; have f_r0 := x_r.fr 0; have f_r1 := x_r.fr 1; have q_r2 := x_r.c2; have f_r2 := x_r.fr 2
    go_region_held3 (fun w' => w'.cell? ⟨w.heap.size, 0, none⟩ = some (.bool (ngB (od (cM X e)))) ∧ w'.cell? ⟨w.heap.size, 1, none⟩ = some (.slice A1 n1 c1) ∧ w'.cell? ⟨w.heap.size, 2, none⟩ = some (.int .i64 (nE (cM X e) (cE e))) ∧ w'.cell? ⟨w.heap.size + 1, 0, none⟩ = some (.bool (ngB (od (cM Y f)))) ∧ w'.cell? ⟨w.heap.size + 1, 1, none⟩ = some (.slice A3 n3 c3) ∧ w'.cell? ⟨w.heap.size + 1, 2, none⟩ = some (.int .i64 (nE (cM Y f) (cE f))))
      (first | (with_reducible exact ⟨x_a.c0, x_a.c1, x_a.c2, x_b.c0, x_b.c1, x_b.c2⟩) | (with_reducible exact ⟨(x_a.aside (by omega)).c0, (x_a.aside (by omega)).c1, (x_a.aside (by omega)).c2, (x_b.aside (by omega)).c0, (x_b.aside (by omega)).c1, (x_b.aside (by omega)).c2⟩) | (with_reducible exact ⟨((x_a.aside (by omega)).aside (by omega)).c0, ((x_a.aside (by omega)).aside (by omega)).c1, ((x_a.aside (by omega)).aside (by omega)).c2, ((x_b.aside (by omega)).aside (by omega)).c0, ((x_b.aside (by omega)).aside (by omega)).c1, ((x_b.aside (by omega)).aside (by omega)).c2⟩) | (with_reducible exact ⟨(x_a.asideD (by omega)).c0, (x_a.asideD (by omega)).c1, (x_a.asideD (by omega)).c2, (x_b.asideD (by omega)).c0, (x_b.asideD (by omega)).c1, (x_b.asideD (by omega)).c2⟩) | (with_reducible exact ⟨((x_a.asideD (by omega)).asideD (by omega)).c0, ((x_a.asideD (by omega)).asideD (by omega)).c1, ((x_a.asideD (by omega)).asideD (by omega)).c2, ((x_b.asideD (by omega)).asideD (by omega)).c0, ((x_b.asideD (by omega)).asideD (by omega)).c1, ((x_b.asideD (by omega)).asideD (by omega)).c2⟩) | go_keep)
      (first | (go_at_call 55; (with_reducible refine (raised_any zc.drw.zr 0 (by omega) 280 (by omega) (by omega)).mono ?_); rintro e v6 ⟨A5, n5, c5, rfl, z5, hb1⟩; replace hb1 := undrew hb1; replace x_a := x_a.keep hb1; replace x_b := x_b.keep hb1; replace x_r := x_r.keep hb1; replace zd := zd.keep hb1; replace zc := zc.keep hb1; replace hb := bthen hb hb1; clear hb1; replace q_a0 := x_a.c0; replace q_a1 := x_a.c1; replace f_a0 := x_a.fr 0; replace f_a1 := x_a.fr 1; replace q_a2 := x_a.c2; replace f_a2 := x_a.fr 2; replace q_b0 := x_b.c0; replace q_b1 := x_b.c1; replace f_b0 := x_b.fr 0; replace f_b1 := x_b.fr 1; replace q_b2 := x_b.c2; replace f_b2 := x_b.fr 2; replace q_r0 := x_r.c0; replace q_r1 := x_r.c1; replace f_r0 := x_r.fr 0; replace f_r1 := x_r.fr 1; replace q_r2 := x_r.c2; replace f_r2 := x_r.fr 2; rw [HP.out] at z5 ⊢) | (go_at_call 55; (with_reducible refine (raised_any zd.zr (nE (cM Y f) (cE f) - nE (cM X e) (cE e)) (by omega) 280 (by omega) (by omega)).mono ?_); rintro e v7 ⟨A6, n6, c6, rfl, z6, hb1⟩; replace x_a := x_a.keep hb1; replace x_b := x_b.keep hb1; replace x_r := x_r.keep hb1; replace zd := zd.keep hb1; replace zc := zc.keep hb1; replace z5 := z5.keep hb1; replace hb := bthen hb hb1; clear hb1; replace q_a0 := x_a.c0; replace q_a1 := x_a.c1; replace f_a0 := x_a.fr 0; replace f_a1 := x_a.fr 1; replace q_a2 := x_a.c2; replace f_a2 := x_a.fr 2; replace q_b0 := x_b.c0; replace q_b1 := x_b.c1; replace f_b0 := x_b.fr 0; replace f_b1 := x_b.fr 1; replace q_b2 := x_b.c2; replace f_b2 := x_b.fr 2; replace q_r0 := x_r.c0; replace q_r1 := x_r.c1; replace f_r0 := x_r.fr 0; replace f_r1 := x_r.fr 1; replace q_r2 := x_r.c2; replace f_r2 := x_r.fr 2; rw [HQ.out] at z6 ⊢) | (go_at_call 56; (with_reducible refine (RSubZ_any z5.zr z6.zr 400 (by omega) (by omega) (by omega)).mono ?_); rintro e v8 ⟨A7, n7, c7, rfl, z7, hb1⟩; replace x_a := x_a.keep hb1; replace x_b := x_b.keep hb1; replace x_r := x_r.keep hb1; replace zd := zd.keep hb1; replace zc := zc.keep hb1; replace z5 := z5.keep hb1; replace z6 := z6.keep hb1; replace hb := bthen hb hb1; clear hb1; replace q_a0 := x_a.c0; replace q_a1 := x_a.c1; replace f_a0 := x_a.fr 0; replace f_a1 := x_a.fr 1; replace q_a2 := x_a.c2; replace f_a2 := x_a.fr 2; replace q_b0 := x_b.c0; replace q_b1 := x_b.c1; replace f_b0 := x_b.fr 0; replace f_b1 := x_b.fr 1; replace q_b2 := x_b.c2; replace f_b2 := x_b.fr 2; replace q_r0 := x_r.c0; replace q_r1 := x_r.c1; replace f_r0 := x_r.fr 0; replace f_r1 := x_r.fr 1; replace q_r2 := x_r.c2; replace f_r2 := x_r.fr 2) | (go_at_call 53; (with_reducible refine (plain_any z7.zr (nE (cM X e) (cE e)) (by omega) (by omega)).mono ?_); rintro e v9 ⟨A8, n8, c8, rfl, z8, hb1⟩; replace x_a := x_a.keep hb1; replace x_b := x_b.keep hb1; replace x_r := x_r.keep hb1; replace zd := zd.keep hb1; replace zc := zc.keep hb1; replace z5 := z5.keep hb1; replace z6 := z6.keep hb1; replace z7 := z7.keep hb1; replace hb := bthen hb hb1; clear hb1; replace q_a0 := x_a.c0; replace q_a1 := x_a.c1; replace f_a0 := x_a.fr 0; replace f_a1 := x_a.fr 1; replace q_a2 := x_a.c2; replace f_a2 := x_a.fr 2; replace q_b0 := x_b.c0; replace q_b1 := x_b.c1; replace f_b0 := x_b.fr 0; replace f_b1 := x_b.fr 1; replace q_b2 := x_b.c2; replace f_b2 := x_b.fr 2; replace q_r0 := x_r.c0; replace q_r1 := x_r.c1; replace f_r0 := x_r.fr 0; replace f_r1 := x_r.fr 1; replace q_r2 := x_r.c2; replace f_r2 := x_r.fr 2; rw [HREF.out.1] at z8 ⊢; rw [HREF.out.2]))
    go_wp2
    replace x_a := x_a.asideD (b' := (ngB (od (alP X e f - alQ Y e f)))) (A' := A8) (n' := n8) (c' := c8) (e' := (nE (alP X e f - alQ Y e f) (alE e f))) (g := w.heap.size + 1 + 1) (by omega)
    replace x_b := x_b.asideD (b' := (ngB (od (alP X e f - alQ Y e f)))) (A' := A8) (n' := n8) (c' := c8) (e' := (nE (alP X e f - alQ Y e f) (alE e f))) (g := w.heap.size + 1 + 1) (by omega)
    replace zd := zd.putD (b' := (ngB (od (alP X e f - alQ Y e f)))) (A' := A8) (n' := n8) (c' := c8) (e' := (nE (alP X e f - alQ Y e f) (alE e f))) x_r
    replace zc := zc.putD (b' := (ngB (od (alP X e f - alQ Y e f)))) (A' := A8) (n' := n8) (c' := c8) (e' := (nE (alP X e f - alQ Y e f) (alE e f))) x_r
    replace z5 := z5.putD (b' := (ngB (od (alP X e f - alQ Y e f)))) (A' := A8) (n' := n8) (c' := c8) (e' := (nE (alP X e f - alQ Y e f) (alE e f))) x_r
    replace z6 := z6.putD (b' := (ngB (od (alP X e f - alQ Y e f)))) (A' := A8) (n' := n8) (c' := c8) (e' := (nE (alP X e f - alQ Y e f) (alE e f))) x_r
    replace z7 := z7.putD (b' := (ngB (od (alP X e f - alQ Y e f)))) (A' := A8) (n' := n8) (c' := c8) (e' := (nE (alP X e f - alQ Y e f) (alE e f))) x_r
    replace z8 := z8.putD (b' := (ngB (od (alP X e f - alQ Y e f)))) (A' := A8) (n' := n8) (c' := c8) (e' := (nE (alP X e f - alQ Y e f) (alE e f))) x_r
    replace hb := put_belowD (g := w.heap.size + 1 + 1) hb (by omega) (.bool (ngB (od (alP X e f - alQ Y e f)))) (.slice A8 n8 c8) (.int .i64 (nE (alP X e f - alQ Y e f) (alE e f)))
    replace x_r := x_r.put (ngB (od (alP X e f - alQ Y e f))) A8 n8 c8 (nE (alP X e f - alQ Y e f) (alE e f))
    clear q_a0 q_a1 f_a0 f_a1 q_a2 f_a2 q_b0 q_b1 f_b0 f_b1 q_b2 f_b2 q_r0 q_r1 f_r0 f_r1 q_r2 f_r2
    generalize ((v9.setCell ⟨w.heap.size + 1 + 1, 0, none⟩ (.bool (ngB (od (alP X e f - alQ Y e f))))).setCell ⟨w.heap.size + 1 + 1, 1, none⟩ (.slice A8 n8 c8)).setCell ⟨w.heap.size + 1 + 1, 2, none⟩ (.int .i64 (nE (alP X e f - alQ Y e f) (alE e f))) = v10 at *
    have q_a0 := x_a.c0; have q_a1 := x_a.c1; have f_a0 := x_a.fr 0; have f_a1 := x_a.fr 1; have q_a2 := x_a.c2; have f_a2 := x_a.fr 2
    have q_b0 := x_b.c0; have q_b1 := x_b.c1; have f_b0 := x_b.fr 0; have f_b1 := x_b.fr 1; have q_b2 := x_b.c2; have f_b2 := x_b.fr 2
    have q_r0 := x_r.c0; have q_r1 := x_r.c1; have f_r0 := x_r.fr 0; have f_r1 := x_r.fr 1; have q_r2 := x_r.c2; have f_r2 := x_r.fr 2
    refine bodyPost_ret (v := .agg #[.bool (ngB (od (alP X e f - alQ Y e f))), .slice A8 n8 c8, .int .i64 (nE (alP X e f - alQ Y e f) (alE e f))]) (by simp [results, Tryd.results25, go_sem, q_r0, q_r1, q_r2]) rfl ?_
    exact ⟨_, _, _, rfl, z8, hb⟩
end
end Go.Proofs.YtcoidcbbdibnaaaDoor
namespace Go.Proofs.YtcoidcbbdibnaaaDoor
section
open Go.RowKit
set_option linter.unusedVariables false

set_option maxRecDepth 100000 in
set_option maxHeartbeats 1000000 in
theorem DRNorm_any {b : Bool} {A : Option Addr} {n c : Nat} {X e : Int} {j : Nat} {w : World} (h : Zr w b A n c X j) (hj : j ≤ 12) :
    Calls Tryd.prog 13 #[.agg #[.bool b, .slice A n c, .int .i64 e]] w (OutD w (od (cM X e)) (nE (cM X e) (cE e)) j) := by
  go_enter Tryd.func13, Tryd.ntmps13
  go_wp2_with fail
  have x_a : Dx (w.alloc (.cells #[.bool b, .slice A n c, .int .i64 e] 26)) (w.heap.size) b A n c e := by have := Dx.new w b A n c e; simpa using this
  replace x_a := x_a.alloc (.cells #[.bool false, .slice none 0 0, .int .i64 0] 26)
  have x_r : Dx ((w.alloc (.cells #[.bool b, .slice A n c, .int .i64 e] 26)).alloc (.cells #[.bool false, .slice none 0 0, .int .i64 0] 26)) (w.heap.size + 1) false none 0 0 0 := by have := Dx.new (w.alloc (.cells #[.bool b, .slice A n c, .int .i64 e] 26)) false none 0 0 0; simpa using this
  have hb : Below w.heap.size w ((w.alloc (.cells #[.bool b, .slice A n c, .int .i64 e] 26)).alloc (.cells #[.bool false, .slice none 0 0, .int .i64 0] 26)) := (Below.alloc (Below.alloc (Below.refl w.heap.size w) (by simp) (.cells #[.bool b, .slice A n c, .int .i64 e] 26)) (by simp) (.cells #[.bool false, .slice none 0 0, .int .i64 0] 26))
  generalize (w.alloc (.cells #[.bool b, .slice A n c, .int .i64 e] 26)).alloc (.cells #[.bool false, .slice none 0 0, .int .i64 0] 26) = v1 at *
  replace h := h.keep hb
  have q_a0 := x_a.c0; have q_a1 := x_a.c1; have f_a0 := x_a.fr 0; have f_a1 := x_a.fr 1; have q_a2 := x_a.c2; have f_a2 := x_a.fr 2
  have q_r0 := x_r.c0; have q_r1 := x_r.c1; have f_r0 := x_r.fr 0; have f_r1 := x_r.fr 1; have q_r2 := x_r.c2; have f_r2 := x_r.fr 2
  go_wp2_with fail
  with_reducible refine (counts_any h (by omega)).mono ?_
  rintro e v2 ⟨A1, n1, c1, rfl, zc, hb1⟩
  replace x_a := x_a.keep hb1
  replace x_r := x_r.keep hb1
  replace h := h.keep hb1
  replace hb := bthen hb hb1
  clear hb1
  replace q_a0 := x_a.c0; replace q_a1 := x_a.c1; replace f_a0 := x_a.fr 0; replace f_a1 := x_a.fr 1; replace q_a2 := x_a.c2; replace f_a2 := x_a.fr 2
  replace q_r0 := x_r.c0; replace q_r1 := x_r.c1; replace f_r0 := x_r.fr 0; replace f_r1 := x_r.fr 1; replace q_r2 := x_r.c2; replace f_r2 := x_r.fr 2
  go_wp2
  replace x_a := x_a.asideD (b' := (ngB (od (cM X e)))) (A' := A1) (n' := n1) (c' := c1) (e' := (nE (cM X e) (cE e))) (g := w.heap.size + 1) (by omega)
  replace h := h.putD (b' := (ngB (od (cM X e)))) (A' := A1) (n' := n1) (c' := c1) (e' := (nE (cM X e) (cE e))) x_r
  replace zc := zc.putD (b' := (ngB (od (cM X e)))) (A' := A1) (n' := n1) (c' := c1) (e' := (nE (cM X e) (cE e))) x_r
  replace hb := put_belowD (g := w.heap.size + 1) hb (by omega) (.bool (ngB (od (cM X e)))) (.slice A1 n1 c1) (.int .i64 (nE (cM X e) (cE e)))
  replace x_r := x_r.put (ngB (od (cM X e))) A1 n1 c1 (nE (cM X e) (cE e))
  clear q_a0 q_a1 f_a0 f_a1 q_a2 f_a2 q_r0 q_r1 f_r0 f_r1 q_r2 f_r2
  generalize ((v2.setCell ⟨w.heap.size + 1, 0, none⟩ (.bool (ngB (od (cM X e))))).setCell ⟨w.heap.size + 1, 1, none⟩ (.slice A1 n1 c1)).setCell ⟨w.heap.size + 1, 2, none⟩ (.int .i64 (nE (cM X e) (cE e))) = v3 at *
  have q_a0 := x_a.c0; have q_a1 := x_a.c1; have f_a0 := x_a.fr 0; have f_a1 := x_a.fr 1; have q_a2 := x_a.c2; have f_a2 := x_a.fr 2
  have q_r0 := x_r.c0; have q_r1 := x_r.c1; have f_r0 := x_r.fr 0; have f_r1 := x_r.fr 1; have q_r2 := x_r.c2; have f_r2 := x_r.fr 2
  refine bodyPost_ret (v := .agg #[.bool (ngB (od (cM X e))), .slice A1 n1 c1, .int .i64 (nE (cM X e) (cE e))]) (by simp [results, Tryd.results13, go_sem, q_r0, q_r1, q_r2]) rfl ?_
  exact ⟨_, _, _, rfl, zc, hb⟩

set_option maxRecDepth 100000 in
set_option maxHeartbeats 1000000 in
theorem DROf_any {b : Bool} {A : Option Addr} {n c : Nat} {X e : Int} {j : Nat} {w : World} (h : Zr w b A n c X j) (hj : j ≤ 12) :
    Calls Tryd.prog 15 #[.agg #[.bool b, .slice A n c], .int .i64 e] w (OutD w (od (cM X e)) (nE (cM X e) (cE e)) j) := by
  go_enter Tryd.func15, Tryd.ntmps15
  go_wp2_with fail
  have x_m : Bx (w.alloc (.cells #[.bool b, .slice A n c] 24)) (w.heap.size) b A n c := by have := Bx.new w b A n c; simpa using this
  replace x_m := x_m.alloc (.cells #[.bool false, .slice none 0 0, .int .i64 0] 26)
  have x_r : Dx ((w.alloc (.cells #[.bool b, .slice A n c] 24)).alloc (.cells #[.bool false, .slice none 0 0, .int .i64 0] 26)) (w.heap.size + 1) false none 0 0 0 := by have := Dx.new (w.alloc (.cells #[.bool b, .slice A n c] 24)) false none 0 0 0; simpa using this
  have hb : Below w.heap.size w ((w.alloc (.cells #[.bool b, .slice A n c] 24)).alloc (.cells #[.bool false, .slice none 0 0, .int .i64 0] 26)) := (Below.alloc (Below.alloc (Below.refl w.heap.size w) (by simp) (.cells #[.bool b, .slice A n c] 24)) (by simp) (.cells #[.bool false, .slice none 0 0, .int .i64 0] 26))
  generalize (w.alloc (.cells #[.bool b, .slice A n c] 24)).alloc (.cells #[.bool false, .slice none 0 0, .int .i64 0] 26) = v1 at *
  replace h := h.keep hb
  have q_m0 := x_m.c0; have q_m1 := x_m.c1; have f_m0 := x_m.fr 0; have f_m1 := x_m.fr 1
  have q_r0 := x_r.c0; have q_r1 := x_r.c1; have f_r0 := x_r.fr 0; have f_r1 := x_r.fr 1; have q_r2 := x_r.c2; have f_r2 := x_r.fr 2
  go_wp2_with fail
  with_reducible refine (counts_any h (by omega)).mono ?_
  rintro e v2 ⟨A1, n1, c1, rfl, zc, hb1⟩
  replace x_m := x_m.keep hb1
  replace x_r := x_r.keep hb1
  replace h := h.keep hb1
  replace hb := bthen hb hb1
  clear hb1
  replace q_m0 := x_m.c0; replace q_m1 := x_m.c1; replace f_m0 := x_m.fr 0; replace f_m1 := x_m.fr 1
  replace q_r0 := x_r.c0; replace q_r1 := x_r.c1; replace f_r0 := x_r.fr 0; replace f_r1 := x_r.fr 1; replace q_r2 := x_r.c2; replace f_r2 := x_r.fr 2
  go_wp2
  replace x_m := x_m.asideD (b' := (ngB (od (cM X e)))) (A' := A1) (n' := n1) (c' := c1) (e' := (nE (cM X e) (cE e))) (g := w.heap.size + 1) (by omega)
  replace h := h.putD (b' := (ngB (od (cM X e)))) (A' := A1) (n' := n1) (c' := c1) (e' := (nE (cM X e) (cE e))) x_r
  replace zc := zc.putD (b' := (ngB (od (cM X e)))) (A' := A1) (n' := n1) (c' := c1) (e' := (nE (cM X e) (cE e))) x_r
  replace hb := put_belowD (g := w.heap.size + 1) hb (by omega) (.bool (ngB (od (cM X e)))) (.slice A1 n1 c1) (.int .i64 (nE (cM X e) (cE e)))
  replace x_r := x_r.put (ngB (od (cM X e))) A1 n1 c1 (nE (cM X e) (cE e))
  clear q_m0 q_m1 f_m0 f_m1 q_r0 q_r1 f_r0 f_r1 q_r2 f_r2
  generalize ((v2.setCell ⟨w.heap.size + 1, 0, none⟩ (.bool (ngB (od (cM X e))))).setCell ⟨w.heap.size + 1, 1, none⟩ (.slice A1 n1 c1)).setCell ⟨w.heap.size + 1, 2, none⟩ (.int .i64 (nE (cM X e) (cE e))) = v3 at *
  have q_m0 := x_m.c0; have q_m1 := x_m.c1; have f_m0 := x_m.fr 0; have f_m1 := x_m.fr 1
  have q_r0 := x_r.c0; have q_r1 := x_r.c1; have f_r0 := x_r.fr 0; have f_r1 := x_r.fr 1; have q_r2 := x_r.c2; have f_r2 := x_r.fr 2
  refine bodyPost_ret (v := .agg #[.bool (ngB (od (cM X e))), .slice A1 n1 c1, .int .i64 (nE (cM X e) (cE e))]) (by simp [results, Tryd.results15, go_sem, q_r0, q_r1, q_r2]) rfl ?_
  exact ⟨_, _, _, rfl, zc, hb⟩

set_option maxRecDepth 100000 in
set_option maxHeartbeats 1000000 in
theorem DRSign_any {b : Bool} {A : Option Addr} {n c : Nat} {X e : Int} {j : Nat} {w : World} (h : Zr w b A n c X j) (hj : j ≤ 12) :
    Calls Tryd.prog 19 #[.agg #[.bool b, .slice A n c, .int .i64 e]] w fun en w' => en = .returned (.int .i64 (sgnI (cM X e))) ∧ Below w.heap.size w w' := by
  have HS := Lib.hid (sgn_od (cM X e))
  go_enter Tryd.func19, Tryd.ntmps19
  go_wp2_with fail
  have x_a : Dx (w.alloc (.cells #[.bool b, .slice A n c, .int .i64 e] 26)) (w.heap.size) b A n c e := by have := Dx.new w b A n c e; simpa using this
  have hb : Below w.heap.size w (w.alloc (.cells #[.bool b, .slice A n c, .int .i64 e] 26)) := (Below.alloc (Below.refl w.heap.size w) (by simp) (.cells #[.bool b, .slice A n c, .int .i64 e] 26))
  generalize w.alloc (.cells #[.bool b, .slice A n c, .int .i64 e] 26) = v1 at *
  replace h := h.keep hb
  have q_a0 := x_a.c0; have q_a1 := x_a.c1; have f_a0 := x_a.fr 0; have f_a1 := x_a.fr 1; have q_a2 := x_a.c2; have f_a2 := x_a.fr 2
  go_wp2_with fail
  with_reducible refine (counts_any h (by omega)).mono ?_
  rintro e v2 ⟨A1, n1, c1, rfl, zc, hb1⟩
  replace x_a := x_a.keep hb1
  replace h := h.keep hb1
  replace hb := bthen hb hb1
  clear hb1
  replace q_a0 := x_a.c0; replace q_a1 := x_a.c1; replace f_a0 := x_a.fr 0; replace f_a1 := x_a.fr 1; replace q_a2 := x_a.c2; replace f_a2 := x_a.fr 2
  have hfl := field0 (ngB (od (cM X e))) A1 n1 c1 (nE (cM X e) (cE e)) v2
  go_wp2_with fail
  with_reducible refine (RSignZ_any zc.zr (by omega)).mono ?_
  rintro e v3 ⟨rfl, hb1⟩
  replace x_a := x_a.keep hb1
  replace h := h.keep hb1
  replace zc := zc.keep hb1
  replace hb := bthen hb hb1
  clear hb1
  replace q_a0 := x_a.c0; replace q_a1 := x_a.c1; replace f_a0 := x_a.fr 0; replace f_a1 := x_a.fr 1; replace q_a2 := x_a.c2; replace f_a2 := x_a.fr 2
  rw [HS.out]
  go_wp2
  go_ret
  exact ⟨rfl, hb⟩

set_option maxRecDepth 100000 in
set_option maxHeartbeats 1000000 in
theorem DRCmp_any {b b2 : Bool} {A A2 : Option Addr} {n c n2 c2 : Nat} {X Y e f : Int} {j j2 : Nat} {w : World} (h : Zr w b A n c X j) (h2 : Zr w b2 A2 n2 c2 Y j2) (hj : j ≤ 12) (hj2 : j2 ≤ 12) :
    Calls Tryd.prog 21 #[.agg #[.bool b, .slice A n c, .int .i64 e], .agg #[.bool b2, .slice A2 n2 c2, .int .i64 f]] w fun en w' => en = .returned (.int .i64 (sgnI (alP X e f - alQ Y e f))) ∧ Below w.heap.size w w' := by
  have HS := Lib.hid (sgn_od (alP X e f - alQ Y e f))
  go_enter Tryd.func21, Tryd.ntmps21
  go_wp2_with fail
  have x_a : Dx (w.alloc (.cells #[.bool b, .slice A n c, .int .i64 e] 26)) (w.heap.size) b A n c e := by have := Dx.new w b A n c e; simpa using this
  replace x_a := x_a.alloc (.cells #[.bool b2, .slice A2 n2 c2, .int .i64 f] 26)
  have x_b : Dx ((w.alloc (.cells #[.bool b, .slice A n c, .int .i64 e] 26)).alloc (.cells #[.bool b2, .slice A2 n2 c2, .int .i64 f] 26)) (w.heap.size + 1) b2 A2 n2 c2 f := by have := Dx.new (w.alloc (.cells #[.bool b, .slice A n c, .int .i64 e] 26)) b2 A2 n2 c2 f; simpa using this
  have hb : Below w.heap.size w ((w.alloc (.cells #[.bool b, .slice A n c, .int .i64 e] 26)).alloc (.cells #[.bool b2, .slice A2 n2 c2, .int .i64 f] 26)) := (Below.alloc (Below.alloc (Below.refl w.heap.size w) (by simp) (.cells #[.bool b, .slice A n c, .int .i64 e] 26)) (by simp) (.cells #[.bool b2, .slice A2 n2 c2, .int .i64 f] 26))
  generalize (w.alloc (.cells #[.bool b, .slice A n c, .int .i64 e] 26)).alloc (.cells #[.bool b2, .slice A2 n2 c2, .int .i64 f] 26) = v1 at *
  replace h := h.keep hb
  replace h2 := h2.keep hb
  have q_a0 := x_a.c0; have q_a1 := x_a.c1; have f_a0 := x_a.fr 0; have f_a1 := x_a.fr 1; have q_a2 := x_a.c2; have f_a2 := x_a.fr 2
  have q_b0 := x_b.c0; have q_b1 := x_b.c1; have f_b0 := x_b.fr 0; have f_b1 := x_b.fr 1; have q_b2 := x_b.c2; have f_b2 := x_b.fr 2
  go_wp2_with fail
  with_reducible refine (DRSub_any h h2 hj hj2).mono ?_
  rintro e v2 ⟨A1, n1, c1, rfl, zc, hb1⟩
  replace x_a := x_a.keep hb1
  replace x_b := x_b.keep hb1
  replace h := h.keep hb1
  replace h2 := h2.keep hb1
  replace hb := bthen hb hb1
  clear hb1
  replace q_a0 := x_a.c0; replace q_a1 := x_a.c1; replace f_a0 := x_a.fr 0; replace f_a1 := x_a.fr 1; replace q_a2 := x_a.c2; replace f_a2 := x_a.fr 2
  replace q_b0 := x_b.c0; replace q_b1 := x_b.c1; replace f_b0 := x_b.fr 0; replace f_b1 := x_b.fr 1; replace q_b2 := x_b.c2; replace f_b2 := x_b.fr 2
  have hfl := field0 (ngB (od (alP X e f - alQ Y e f))) A1 n1 c1 (nE (alP X e f - alQ Y e f) (alE e f)) v2
  go_wp2_with fail
  with_reducible refine (RSignZ_any zc.zr (by omega)).mono ?_
  rintro e v3 ⟨rfl, hb1⟩
  replace x_a := x_a.keep hb1
  replace x_b := x_b.keep hb1
  replace h := h.keep hb1
  replace h2 := h2.keep hb1
  replace zc := zc.keep hb1
  replace hb := bthen hb hb1
  clear hb1
  replace q_a0 := x_a.c0; replace q_a1 := x_a.c1; replace f_a0 := x_a.fr 0; replace f_a1 := x_a.fr 1; replace q_a2 := x_a.c2; replace f_a2 := x_a.fr 2
  replace q_b0 := x_b.c0; replace q_b1 := x_b.c1; replace f_b0 := x_b.fr 0; replace f_b1 := x_b.fr 1; replace q_b2 := x_b.c2; replace f_b2 := x_b.fr 2
  rw [HS.out]
  go_wp2
  go_ret
  exact ⟨rfl, hb⟩

theorem bl_shl2 {N : Nat} (h : 0 < N) (k : Nat) : bl (N * 2 ^ k) = bl N + k := by
  have p1 := bl_pos h
  have h1 : 2 ^ (bl N - 1) ≤ N := le_of_bl (k := bl N - 1) (by omega)
  have a : 2 ^ (bl N - 1 + k) ≤ N * 2 ^ k := by rw [Nat.pow_add]; exact Nat.mul_le_mul_right _ h1
  have b : N * 2 ^ k < 2 ^ (bl N + k) := by rw [Nat.pow_add]; exact Nat.mul_lt_mul_of_pos_right (lt_bl N) (Nat.two_pow_pos k)
  have c := bl_ge a
  have d := bl_le b
  omega
theorem lg_ref (X e : Int) : (X = 0 → bl (od X).natAbs = 0) ∧ (X ≠ 0 → 0 < bl (od X).natAbs ∧ nE X e + bl (od X).natAbs - 1 = e + bl X.natAbs - 1) := by
  constructor
  · intro h; subst h; rw [od_zero]; have := bl_le (n := 0) (k := 0) (by omega); show bl 0 = 0; omega
  · intro h
    have h1 := congrArg Int.natAbs (tz_spec h).1
    rw [Int.natAbs_mul, pow_cast, Int.natAbs_natCast] at h1
    have h2 : 0 < (od X).natAbs := by have := od_ne h; omega
    have h3 := bl_shl2 h2 (tz X)
    rw [← h1] at h3
    refine ⟨bl_pos h2, ?_⟩
    rw [nE_ne h]; omega

set_option maxRecDepth 100000 in
set_option maxHeartbeats 2000000 in
theorem DRLog_any {b : Bool} {A : Option Addr} {n c : Nat} {X e : Int} {j : Nat} {w : World} (h : Zr w b A n c X j) (hj : j ≤ 12) :
    Calls Tryd.prog 17 #[.agg #[.bool b, .slice A n c, .int .i64 e]] w fun en w' => en = .returned (.tuple #[.int .i64 (lgI (cM X e) (cE e)), .bool (lgB (cM X e))]) ∧ Below w.heap.size w w' := by
  have hr := nE_rng (h.si.counted (e := e)) (cE_in e)
  have hlr := lg_ref (cM X e) (cE e)
  have hbo : bl (od (cM X e)).natAbs ≤ 64 * j := bl_le (Nat.lt_of_le_of_lt (od_abs _) (Bt.of_si (h.si.counted (e := e))))
  obtain ⟨β, hβ⟩ : ∃ β, bl (od (cM X e)).natAbs = β := ⟨_, rfl⟩
  rw [hβ] at hlr hbo
  have HB := Lib.hid hβ; clear hβ
  by_cases hX : cM X e = 0
  · obtain rfl : β = 0 := hlr.1 hX
    have HF : Hid (lgI (cM X e) (cE e) = 0 ∧ lgB (cM X e) = false) := Lib.hid ⟨by unfold lgI; rw [if_pos hX], by unfold lgB; simp [hX]⟩
    clear hX hlr
    go_enter Tryd.func17, Tryd.ntmps17
    go_wp2_with fail
    have x_a : Dx (w.alloc (.cells #[.bool b, .slice A n c, .int .i64 e] 26)) (w.heap.size) b A n c e := by have := Dx.new w b A n c e; simpa using this
    have hb : Below w.heap.size w (w.alloc (.cells #[.bool b, .slice A n c, .int .i64 e] 26)) := (Below.alloc (Below.refl w.heap.size w) (by simp) (.cells #[.bool b, .slice A n c, .int .i64 e] 26))
    generalize w.alloc (.cells #[.bool b, .slice A n c, .int .i64 e] 26) = v1 at *
    replace h := h.keep hb
    have q_a0 := x_a.c0; have q_a1 := x_a.c1; have f_a0 := x_a.fr 0; have f_a1 := x_a.fr 1; have q_a2 := x_a.c2; have f_a2 := x_a.fr 2
    go_wp2_with fail
    with_reducible refine (counts_any h (by omega)).mono ?_
    rintro e v2 ⟨A1, n1, c1, rfl, zc, hb1⟩
    replace x_a := x_a.keep hb1
    replace h := h.keep hb1
    replace hb := bthen hb hb1
    clear hb1
    replace q_a0 := x_a.c0; replace q_a1 := x_a.c1; replace f_a0 := x_a.fr 0; replace f_a1 := x_a.fr 1; replace q_a2 := x_a.c2; replace f_a2 := x_a.fr 2
    clear h
    go_wp2_with fail
    replace zc := zc.putD (b' := (ngB (od (cM X e)))) (A' := A1) (n' := n1) (c' := c1) (e' := (nE (cM X e) (cE e))) x_a
    replace hb := put_belowD (g := w.heap.size) hb (by omega) (.bool (ngB (od (cM X e)))) (.slice A1 n1 c1) (.int .i64 (nE (cM X e) (cE e)))
    replace x_a := x_a.put (ngB (od (cM X e))) A1 n1 c1 (nE (cM X e) (cE e))
    clear q_a0 q_a1 f_a0 f_a1 q_a2 f_a2
    generalize ((v2.setCell ⟨w.heap.size, 0, none⟩ (.bool (ngB (od (cM X e))))).setCell ⟨w.heap.size, 1, none⟩ (.slice A1 n1 c1)).setCell ⟨w.heap.size, 2, none⟩ (.int .i64 (nE (cM X e) (cE e))) = v3 at *
    have q_a0 := x_a.c0; have q_a1 := x_a.c1; have f_a0 := x_a.fr 0; have f_a1 := x_a.fr 1; have q_a2 := x_a.c2; have f_a2 := x_a.fr 2
    with_reducible refine (RBitLenZ_any zc.zr (by omega)).mono ?_
    rintro e v4 ⟨rfl, hb1⟩
    replace x_a := x_a.keep hb1
    replace zc := zc.keep hb1
    replace hb := bthen hb hb1
    clear hb1
    replace q_a0 := x_a.c0; replace q_a1 := x_a.c1; replace f_a0 := x_a.fr 0; replace f_a1 := x_a.fr 1; replace q_a2 := x_a.c2; replace f_a2 := x_a.fr 2
    rw [HB.out]
    go_wp2
    go_ret2
    exact ⟨tup_ib HF.out.1.symm HF.out.2.symm, hb⟩
  · obtain ⟨hb0, hv⟩ := hlr.2 hX
    have HF : Hid (lgI (cM X e) (cE e) = nE (cM X e) (cE e) + β - 1 ∧ lgB (cM X e) = true) := Lib.hid ⟨by unfold lgI; rw [if_neg hX]; omega, by unfold lgB; simp [hX]⟩
    have hb1x : ((β : Int) == 0) = false := by simp; omega
    have w1 : IntKind.i64.wrap (nE (cM X e) (cE e) + β) = nE (cM X e) (cE e) + β := wrap_in (by omega) (by omega)
    have w2 : IntKind.i64.wrap (nE (cM X e) (cE e) + β - 1) = nE (cM X e) (cE e) + β - 1 := wrap_in (by omega) (by omega)
    clear hX hlr hv
    go_enter Tryd.func17, Tryd.ntmps17
    go_wp2_with fail
    have x_a : Dx (w.alloc (.cells #[.bool b, .slice A n c, .int .i64 e] 26)) (w.heap.size) b A n c e := by have := Dx.new w b A n c e; simpa using this
    have hb : Below w.heap.size w (w.alloc (.cells #[.bool b, .slice A n c, .int .i64 e] 26)) := (Below.alloc (Below.refl w.heap.size w) (by simp) (.cells #[.bool b, .slice A n c, .int .i64 e] 26))
    generalize w.alloc (.cells #[.bool b, .slice A n c, .int .i64 e] 26) = v1 at *
    replace h := h.keep hb
    have q_a0 := x_a.c0; have q_a1 := x_a.c1; have f_a0 := x_a.fr 0; have f_a1 := x_a.fr 1; have q_a2 := x_a.c2; have f_a2 := x_a.fr 2
    go_wp2_with fail
    with_reducible refine (counts_any h (by omega)).mono ?_
    rintro e v2 ⟨A1, n1, c1, rfl, zc, hb1⟩
    replace x_a := x_a.keep hb1
    replace h := h.keep hb1
    replace hb := bthen hb hb1
    clear hb1
    replace q_a0 := x_a.c0; replace q_a1 := x_a.c1; replace f_a0 := x_a.fr 0; replace f_a1 := x_a.fr 1; replace q_a2 := x_a.c2; replace f_a2 := x_a.fr 2
    clear h
    go_wp2_with fail
    replace zc := zc.putD (b' := (ngB (od (cM X e)))) (A' := A1) (n' := n1) (c' := c1) (e' := (nE (cM X e) (cE e))) x_a
    replace hb := put_belowD (g := w.heap.size) hb (by omega) (.bool (ngB (od (cM X e)))) (.slice A1 n1 c1) (.int .i64 (nE (cM X e) (cE e)))
    replace x_a := x_a.put (ngB (od (cM X e))) A1 n1 c1 (nE (cM X e) (cE e))
    clear q_a0 q_a1 f_a0 f_a1 q_a2 f_a2
    generalize ((v2.setCell ⟨w.heap.size, 0, none⟩ (.bool (ngB (od (cM X e))))).setCell ⟨w.heap.size, 1, none⟩ (.slice A1 n1 c1)).setCell ⟨w.heap.size, 2, none⟩ (.int .i64 (nE (cM X e) (cE e))) = v3 at *
    have q_a0 := x_a.c0; have q_a1 := x_a.c1; have f_a0 := x_a.fr 0; have f_a1 := x_a.fr 1; have q_a2 := x_a.c2; have f_a2 := x_a.fr 2
    with_reducible refine (RBitLenZ_any zc.zr (by omega)).mono ?_
    rintro e v4 ⟨rfl, hb1⟩
    replace x_a := x_a.keep hb1
    replace zc := zc.keep hb1
    replace hb := bthen hb hb1
    clear hb1
    replace q_a0 := x_a.c0; replace q_a1 := x_a.c1; replace f_a0 := x_a.fr 0; replace f_a1 := x_a.fr 1; replace q_a2 := x_a.c2; replace f_a2 := x_a.fr 2
    rw [HB.out]
    go_wp2
    go_ret2
    exact ⟨tup_ib HF.out.1.symm HF.out.2.symm, hb⟩
end
end Go.Proofs.YtcoidcbbdibnaaaDoor
namespace Go.Proofs.YtcoidcbbdibnaaaDoor
section
open Go.RowKit
set_option linter.unusedVariables false

set_option maxRecDepth 100000 in
set_option maxHeartbeats 1000000 in
theorem Dequal_any {A A2 : Option Addr} {n c n2 c2 k k2 : Nat} {X Y e f : Int} {w : World} (h : Zn w A n c X k) (h2 : Zn w A2 n2 c2 Y k2) (hXY : X = Y) (hef : e = f) :
    Calls Tryd.prog 12 #[.agg #[.bool (ngB X), .slice A n c, .int .i64 e], .agg #[.bool (ngB Y), .slice A2 n2 c2, .int .i64 f]] w fun en w' => en = .returned (.bool true) ∧ Below w.heap.size w w' := by
  subst hXY hef
  go_enter Tryd.func12, Tryd.ntmps12
  go_wp2_with fail
  have x_a : Dx (w.alloc (.cells #[.bool (ngB X), .slice A n c, .int .i64 e] 26)) (w.heap.size) (ngB X) A n c e := by have := Dx.new w (ngB X) A n c e; simpa using this
  replace x_a := x_a.alloc (.cells #[.bool (ngB X), .slice A2 n2 c2, .int .i64 e] 26)
  have x_b : Dx ((w.alloc (.cells #[.bool (ngB X), .slice A n c, .int .i64 e] 26)).alloc (.cells #[.bool (ngB X), .slice A2 n2 c2, .int .i64 e] 26)) (w.heap.size + 1) (ngB X) A2 n2 c2 e := by have := Dx.new (w.alloc (.cells #[.bool (ngB X), .slice A n c, .int .i64 e] 26)) (ngB X) A2 n2 c2 e; simpa using this
  have hb : Below w.heap.size w ((w.alloc (.cells #[.bool (ngB X), .slice A n c, .int .i64 e] 26)).alloc (.cells #[.bool (ngB X), .slice A2 n2 c2, .int .i64 e] 26)) := (Below.alloc (Below.alloc (Below.refl w.heap.size w) (by simp) (.cells #[.bool (ngB X), .slice A n c, .int .i64 e] 26)) (by simp) (.cells #[.bool (ngB X), .slice A2 n2 c2, .int .i64 e] 26))
  generalize (w.alloc (.cells #[.bool (ngB X), .slice A n c, .int .i64 e] 26)).alloc (.cells #[.bool (ngB X), .slice A2 n2 c2, .int .i64 e] 26) = v1 at *
  replace h := h.keep hb
  replace h2 := h2.keep hb
  have q_a0 := x_a.c0; have q_a1 := x_a.c1; have f_a0 := x_a.fr 0; have f_a1 := x_a.fr 1; have q_a2 := x_a.c2; have f_a2 := x_a.fr 2
  have q_b0 := x_b.c0; have q_b1 := x_b.c1; have f_b0 := x_b.fr 0; have f_b1 := x_b.fr 1; have q_b2 := x_b.c2; have f_b2 := x_b.fr 2
  go_wp2_with fail
  with_reducible refine (REqual_any h h2).mono ?_
  rintro e v2 ⟨rfl, hb1⟩
  replace x_a := x_a.keep hb1
  replace x_b := x_b.keep hb1
  replace h := h.keep hb1
  replace h2 := h2.keep hb1
  replace hb := bthen hb hb1
  clear hb1
  replace q_a0 := x_a.c0; replace q_a1 := x_a.c1; replace f_a0 := x_a.fr 0; replace f_a1 := x_a.fr 1; replace q_a2 := x_a.c2; replace f_a2 := x_a.fr 2
  replace q_b0 := x_b.c0; replace q_b1 := x_b.c1; replace f_b0 := x_b.fr 0; replace f_b1 := x_b.fr 1; replace q_b2 := x_b.c2; replace f_b2 := x_b.fr 2
  go_wp2
  go_ret
  exact ⟨by simp, hb⟩
end
end Go.Proofs.YtcoidcbbdibnaaaDoor
namespace Go.Proofs.YtcoidcbbdibnaaaDoor
section
open Go.RowKit
set_option linter.unusedVariables false

/-- Memory of its own: limbs in a block at B or above that is known whole. -/
def Wn (w : World) (B : Nat) (A : Option Addr) (n : Nat) : Prop := 0 < n → ∃ g l, A = some ⟨g, 0, none⟩ ∧ B ≤ g ∧ Bk w g l ∧ n ≤ l.length
/-- What a function hands back: a number in memory of its own. -/
def OutO (w : World) (N : Nat) (e : Ending) (w' : World) : Prop := ∃ A n c, e = .returned (.slice A n c) ∧ Rd w' w'.heap.size A n c (dg Wd N) ∧ Wn w' w.heap.size A n ∧ Below w.heap.size w w'
def OutZO (w : World) (X : Int) (k : Nat) (e : Ending) (w' : World) : Prop := ∃ A n c, e = .returned (.agg #[.bool (ngB X), .slice A n c]) ∧ Zn w' A n c X k ∧ Wn w' w.heap.size A n ∧ Below w.heap.size w w'
def OutDO (w : World) (X E : Int) (k : Nat) (e : Ending) (w' : World) : Prop := ∃ A n c, e = .returned (.agg #[.bool (ngB X), .slice A n c, .int .i64 E]) ∧ Zn w' A n c X k ∧ Wn w' w.heap.size A n ∧ Below w.heap.size w w'
section
variable {w w' : World} {B B' g n c n2 c2 n' c' : Nat} {b b' : Bool} {A A2 A' : Option Addr} {e e' : Int} {l : List Int}
theorem Wn.more (h : Wn w B A n) (hB : B' ≤ B) : Wn w B' A n := fun hn => by
  obtain ⟨g, l, h1, h2, h3, h4⟩ := h hn
  exact ⟨g, l, h1, Nat.le_trans hB h2, h3, h4⟩
theorem Wn.keep (h : Wn w B A n) (hb : Below w.heap.size w w') : Wn w' B A n := fun hn => by
  obtain ⟨g, l, h1, h2, h3, h4⟩ := h hn
  exact ⟨g, l, h1, h2, h3.below hb h3.lt, h4⟩
theorem Bk.neB (h : Bk w g l) (x : Bx w n2 b A2 n c) : g ≠ n2 := by
  rintro rfl
  unfold Bk at h; unfold Bx at x
  rw [h] at x
  simp at x
theorem Bk.neD (h : Bk w g l) (x : Dx w n2 b A2 n c e) : g ≠ n2 := by
  rintro rfl
  unfold Bk at h; unfold Dx at x
  rw [h] at x
  simp at x
theorem Wn.put (h : Wn w B A n) (x : Bx w g b A2 n2 c2) : Wn ((w.setCell ⟨g, 0, none⟩ (.bool b')).setCell ⟨g, 1, none⟩ (.slice A' n' c')) B A n := fun hn => by
  obtain ⟨g1, l, h1, h2, h3, h4⟩ := h hn
  exact ⟨g1, l, h1, h2, (h3.far (h3.neB x) _).far (h3.neB x) _, h4⟩
theorem Wn.putD (h : Wn w B A n) (x : Dx w g b A2 n2 c2 e) : Wn (((w.setCell ⟨g, 0, none⟩ (.bool b')).setCell ⟨g, 1, none⟩ (.slice A' n' c')).setCell ⟨g, 2, none⟩ (.int .i64 e')) B A n := fun hn => by
  obtain ⟨g1, l, h1, h2, h3, h4⟩ := h hn
  exact ⟨g1, l, h1, h2, ((h3.far (h3.neD x) _).far (h3.neD x) _).far (h3.neD x) _, h4⟩
end

set_option maxHeartbeats 400000 in
theorem trim_own (A : Option Addr) (n c : Nat) (l : List Int) (w : World) (B : Nat) (h : Rd w B A n c l) :
    Calls Tryd.prog 89 #[.slice A n c] w fun e w' => ∃ A' n' c', e = .returned (.slice A' n' c') ∧ Rd w B A' n' c' (dg Wd (vl Wd l)) ∧ (0 < n' → A' = A ∧ n' ≤ n) ∧ w = w' := by
  have hcap := h.cap
  have hbig := h.big
  have H := Lib.hid h.len
  go_enter Tryd.func89, Tryd.ntmps89
  go_wp2
  go_loop [3] (fun i => ∃ k : Nat, k ≤ n ∧ i = .int .i64 k ∧ Hid (∀ j (hj : j < l.length), k ≤ j → l[j] = 0)) (fun i => (intOf i).toNat)
  case atStart => exact ⟨n, Nat.le_refl _, rfl, fun j hj hk => by have := H.out; omega⟩
  case round =>
    obtain ⟨k, hk, rfl, hz⟩ := hrel
    rcases k with _ | k
    · go_wp2
      go_ret
      exact ⟨_, _, _, rfl, h.trimmed0 hz.out, fun h9 => absurd h9 (by omega), rfl⟩
    · obtain ⟨b, off, rfl, hb, hc⟩ := h.at_ (by omega)
      have hkl : k < l.length := by have := H.out; omega
      have hck := hc k hkl
      clear hc
      generalize hx : l[k] = x at hck
      have Hx := Lib.hid hx; clear hx
      have b0 : ((↑(k + 1) : Int) == 0) = false := by simp; omega
      go_wp2
      · have h0 : (x == 0) = true := by assumption
        have h1 : l[k] = 0 := Hx.out.trans (by simpa using h0)
        go_round
        case rel => exact ⟨k, by omega, rfl, trim_zeros H.out hz.out hkl h1⟩
        case measure => simp [intOf]
      · have h0 : (x == 0) = false := by assumption
        have h1 : l[k] ≠ 0 := fun e => by rw [Hx.out] at e; simp [e] at h0
        go_ret
        exact ⟨_, _, _, rfl, h.trimmed (k := k + 1) (by omega) hz.out (fun _ => ⟨hkl, h1⟩), fun _ => ⟨rfl, by omega⟩, rfl⟩

set_option maxHeartbeats 4000000 in
theorem Shr_own (A : Option Addr) (n c : Nat) (l : List Int) (i : Int) (w : World) (h : Rd w w.heap.size A n c l) (hn : n ≤ 1099511627776) :
    Calls Tryd.prog 97 #[.slice A n c, .int .i64 i] w (OutO w (vl Wd l / 2 ^ sc i)) := by
  have hNn := dg_len_le Wd2 (h.len ▸ vl_lt h.lim : vl Wd l < Wd ^ n)
  have hsc := sc_le i
  generalize hN : vl Wd l = N at *
  have HN := Lib.hid hN; clear hN
  go_enter Tryd.func97, Tryd.ntmps97
  go_wp2_with fail
  refine (trim_any _ _ _ _ _ _ h).mono ?_
  rintro e w' ⟨A', n', c', rfl, hrd, rfl⟩
  rw [HN.out] at hrd
  go_wp2_with fail
  refine (shiftCount_any i _).mono ?_
  rintro e w' ⟨rfl, rfl⟩
  generalize sc i = s at *
  have hcap := hrd.cap
  have hbig := hrd.big
  have H := Lib.hid hrd.len
  have hs1 : n' ≤ 1099511627776 := by have := H.out; omega
  obtain ⟨q, hq⟩ : ∃ q, q = s / 64 := ⟨_, rfl⟩
  obtain ⟨r, hr⟩ : ∃ r, r = s % 64 := ⟨_, rfl⟩
  have eq1 : (s : Int) / 64 = q := by omega
  have eq2 : (s : Int) % 64 = r := by omega
  have hr63 : r ≤ 63 := by omega
  have hq128 : q ≤ 128 := by omega
  have hsq : s = 64 * q + r := by omega
  have HS := Lib.hid hsq
  clear hq hr hsq
  by_cases h0 : n' ≤ q
  · have hz : N / 2 ^ s = 0 := by
      refine Nat.div_eq_of_lt ?_
      have h1 : N < Wd ^ n' := dg_lt Wd2 (Nat.le_of_eq H.out)
      have h2 : 2 ^ (64 * n') ≤ 2 ^ s := Nat.pow_le_pow_right (by omega) (by have := HS.out; omega)
      rw [Wd_pow_k] at h1
      omega
    have HZ := Lib.hid hz; clear hz
    go_wp2
    go_ret
    exact ⟨_, _, _, rfl, by rw [HZ.out, dg_zero]; exact Rd.nil, fun h9 => absurd h9 (by omega), Below.refl _ _⟩
  · obtain ⟨b, of, rfl, hdr⟩ := hrd.drop (m := q) (by omega)
    have hval := shr_val (N := N) (q := q) (r := r) HS.out (by have := H.out; omega)
    have HV := Lib.hid hval; clear hval
    obtain ⟨T, hT⟩ : ∃ T, T = n' - q := ⟨_, rfl⟩
    have eT : (n' : Int) - q = T := by omega
    have eT2 : n' - q = T := by omega
    have hqc : ¬ c' = q := by omega
    have hqn : q ≤ n' := by omega
    rw [eT2] at hdr
    have HT := Lib.hid hT; clear hT
    go_wp2_with (at_make; refine wp_make64 rfl _ _ rfl T _ _ rfl rfl (by omega) (by omega) (by omega) ?_; intro w1 hbk1 hb1)
    refine (shiftDown_any w.heap.size 0 T T (some ⟨b, of + q, none⟩) (c' - q) [] (List.replicate T 0) [] _ r w1 w.heap.size rfl (by simp) (Lim_replicate Wd0 _) (by omega) (by simpa using hbk1) (hdr.below hb1) (Nat.le_refl _) hr63).mono ?_
    rintro e w3 ⟨W', rfl, q1, q2, q3, q4, q5⟩
    have hb3 := grow_below hb1 hb1.size q5 (Nat.le_refl _)
    rw [HV.out] at q3
    simp only [List.nil_append, List.append_nil] at q4
    have hw3 := q4.whole (B := w3.heap.size) (n := T) (c := T) q4.lt (by rw [q1]; simp) (Nat.le_refl _) (by omega) q2
    have HV := Lib.hid q3
    clear q3
    go_wp2_with fail
    have HQ1 := Lib.hid q1; clear q1
    refine (trim_own _ _ _ _ _ _ hw3).mono ?_
    rintro e w' ⟨A5, n5, c5, rfl, hrd5, ho5, rfl⟩
    have HO5 := Lib.hid ho5; clear ho5
    go_wp2
    go_ret
    exact ⟨_, _, _, rfl, by rw [HV.out] at hrd5; exact hrd5, fun hp => ⟨_, _, (HO5.out hp).1, Nat.le_refl _, q4, by have h8 := HQ1.out; have h9 := (HO5.out hp).2; simp at h8; omega⟩, hb3⟩

set_option maxHeartbeats 4000000 in
theorem Add_own (A A2 : Option Addr) (n c n2 c2 : Nat) (l m : List Int) (w : World) (h : Rd w w.heap.size A n c l) (h2 : Rd w w.heap.size A2 n2 c2 m) (hn : n ≤ 1099511627776) (hn2 : n2 ≤ 1099511627776) :
    Calls Tryd.prog 79 #[.slice A n c, .slice A2 n2 c2] w (OutO w (vl Wd l + vl Wd m)) := by
  have hNn := dg_len_le Wd2 (h.len ▸ vl_lt h.lim : vl Wd l < Wd ^ n)
  have hMn := dg_len_le Wd2 (h2.len ▸ vl_lt h2.lim : vl Wd m < Wd ^ n2)
  generalize hN : vl Wd l = N at *
  generalize hM : vl Wd m = M at *
  have HN := Lib.hid hN; clear hN
  have HM := Lib.hid hM; clear hM
  go_enter Tryd.func79, Tryd.ntmps79
  go_wp2_with fail
  refine (trim_any _ _ _ _ _ _ h).mono ?_
  rintro e w' ⟨A', n', c', rfl, hrd, rfl⟩
  go_wp2_with fail
  refine (trim_any _ _ _ _ _ _ h2).mono ?_
  rintro e w' ⟨A2', n2', c2', rfl, hrd2, rfl⟩
  rw [HN.out] at hrd
  rw [HM.out] at hrd2
  clear h h2
  have H := Lib.hid hrd.len
  have H2 := Lib.hid hrd2.len
  have hs1 : n' ≤ 1099511627776 := by have := H.out; omega
  have hs2 : n2' ≤ 1099511627776 := by have := H2.out; omega
  clear hNn hMn hn hn2
  by_cases hlt : n' < n2'
  · go_wp2_with (first
      | (at_make; refine wp_make64 rfl _ _ rfl (n2' + 1) _ _ rfl rfl (by simp) (by simp) (by omega) ?_; intro w1 hbk1 hb1; have hrd1 := hrd.below hb1; have hrd21 := hrd2.below hb1)
      | ((with_reducible refine wp_copy64 rfl (.tmp 21) (.tmp 22) rfl w.heap.size 0 (n2' + 1) (n2' + 1) A2' n2' c2' rfl rfl _ _ hbk1 _ hrd21 (by omega) (by simp) ?_); intro w2 hbk2 hg2))
    rw [splice_zeros H2.out (by omega), show n2' + 1 - n2' = 1 by omega] at hbk2
    have hb2 := grow_below hb1 hb1.size hg2 (Nat.le_refl _)
    have hrd2' := hrd1.below (grow_below (Below.refl _ _) hb1.size hg2 (Nat.le_refl _))
    refine (addTo_any w.heap.size 0 (n2' + 1) (n2' + 1) A' n' c' [] _ [] _ _ _ rfl (by simpa using H2.out) (Lim_zeros_top hrd2.lim 1) (by omega) (by simpa using hbk2) hrd2' (Nat.le_refl _) (by omega)).mono ?_
    rintro e w3 ⟨W', cc, rfl, q1, q2, q3, q4, q5, q6⟩
    have hb3 := grow_below hb2 hb2.size q6 (Nat.le_refl _)
    have hlen : W'.length = n2' + 1 := by rw [q1]; simpa using H2.out
    rw [vl_zeros_top, vl_dg Wd2, vl_dg Wd2, ← q1, hlen] at q4
    have hval := add_end q3 q4 (dg_lt Wd2 (Nat.le_of_eq H2.out)) (dg_lt Wd2 (by have := H.out; omega))
    simp only [List.nil_append, List.append_nil] at q5
    have hw3 := q5.whole (B := w3.heap.size) (n := n2' + 1) (c := n2' + 1) q5.lt hlen (Nat.le_refl _) (by omega) q2
    have HV := Lib.hid hval
    have HLN := Lib.hid hlen; clear hval q4 q1 q3 hlen
    go_wp2_with fail
    refine (trim_own _ _ _ _ _ _ hw3).mono ?_
    rintro e w' ⟨A5, n5, c5, rfl, hrd5, ho5, rfl⟩
    have HO5 := Lib.hid ho5; clear ho5
    go_wp2
    go_ret
    exact ⟨_, _, _, rfl, by rw [HV.out, Nat.add_comm] at hrd5; exact hrd5, fun hp => ⟨_, _, (HO5.out hp).1, Nat.le_refl _, q5, by rw [HLN.out]; exact (HO5.out hp).2⟩, hb3⟩
  · go_wp2_with (first
      | (at_make; refine wp_make64 rfl _ _ rfl (n' + 1) _ _ rfl rfl (by simp) (by simp) (by omega) ?_; intro w1 hbk1 hb1; have hrd1 := hrd2.below hb1; have hrd21 := hrd.below hb1)
      | ((with_reducible refine wp_copy64 rfl (.tmp 21) (.tmp 22) rfl w.heap.size 0 (n' + 1) (n' + 1) A' n' c' rfl rfl _ _ hbk1 _ hrd21 (by omega) (by simp) ?_); intro w2 hbk2 hg2))
    rw [splice_zeros H.out (by omega), show n' + 1 - n' = 1 by omega] at hbk2
    have hb2 := grow_below hb1 hb1.size hg2 (Nat.le_refl _)
    have hrd2' := hrd1.below (grow_below (Below.refl _ _) hb1.size hg2 (Nat.le_refl _))
    refine (addTo_any w.heap.size 0 (n' + 1) (n' + 1) A2' n2' c2' [] _ [] _ _ _ rfl (by simpa using H.out) (Lim_zeros_top hrd.lim 1) (by omega) (by simpa using hbk2) hrd2' (Nat.le_refl _) (by omega)).mono ?_
    rintro e w3 ⟨W', cc, rfl, q1, q2, q3, q4, q5, q6⟩
    have hb3 := grow_below hb2 hb2.size q6 (Nat.le_refl _)
    have hlen : W'.length = n' + 1 := by rw [q1]; simpa using H.out
    rw [vl_zeros_top, vl_dg Wd2, vl_dg Wd2, ← q1, hlen] at q4
    have hval := add_end q3 q4 (dg_lt Wd2 (Nat.le_of_eq H.out)) (dg_lt Wd2 (by have := H2.out; omega))
    simp only [List.nil_append, List.append_nil] at q5
    have hw3 := q5.whole (B := w3.heap.size) (n := n' + 1) (c := n' + 1) q5.lt hlen (Nat.le_refl _) (by omega) q2
    have HV := Lib.hid hval
    have HLN := Lib.hid hlen; clear hval q4 q1 q3 hlen
    go_wp2_with fail
    refine (trim_own _ _ _ _ _ _ hw3).mono ?_
    rintro e w' ⟨A5, n5, c5, rfl, hrd5, ho5, rfl⟩
    have HO5 := Lib.hid ho5; clear ho5
    go_wp2
    go_ret
    exact ⟨_, _, _, rfl, by rw [HV.out] at hrd5; exact hrd5, fun hp => ⟨_, _, (HO5.out hp).1, Nat.le_refl _, q5, by rw [HLN.out]; exact (HO5.out hp).2⟩, hb3⟩

set_option maxHeartbeats 4000000 in
theorem inc_own {A : Option Addr} {n c : Nat} {l : List Int} {w : World} (h : Rd w w.heap.size A n c l) (hn : n ≤ 1000000) :
    Calls Tryd.prog 98 #[.slice A n c] w (OutO w (vl Wd l + 1)) := by
  have hb0 := below_alloc w (.cells #[.int .u64 1] 31)
  have h1 := lay1 w 1 (lm_small (by omega) (by omega))
  replace h := h.go hb0
  go_enter Tryd.func98, Tryd.ntmps98
  go_wp2_with fail
  refine (Add_own _ _ _ _ _ _ _ _ _ h h1 (by omega) (by omega)).mono ?_
  rintro e w1 ⟨A1, n1, c1, rfl, g1, o1, hb1⟩
  rw [vl_one, show (1 : Int).toNat = 1 from rfl] at g1
  go_wp2
  go_ret
  exact ⟨_, _, _, rfl, g1, o1.more hb0.size, bthen hb0 hb1⟩

set_option maxRecDepth 100000 in
set_option maxHeartbeats 4000000 in
theorem ZShr_own {b : Bool} {A : Option Addr} {n c : Nat} {X : Int} {j : Nat} {w : World} (h : Zr w b A n c X j) (i : Int) (k : Nat) (hk : j + 1 ≤ k) (hj : k ≤ 1000000) :
    Calls Tryd.prog 76 #[.agg #[.bool b, .slice A n c], .int .i64 i] w (OutZO w (X / 2 ^ sc i) k) := by
  by_cases hX : X < 0
  · have hsg : ¬ (0 ≤ sgnI X) := by have := sgnI_lt0.2 hX; omega
    have hsb := sgnI_is X
    obtain ⟨l, h9, hX9, hn⟩ := id h
    have hXN : X = -((vl Wd l : Nat) : Int) := by rw [← hX9] at hX ⊢; exact zi_neg hX
    have hN0 : 0 < vl Wd l := by omega
    have hs : Sm ((vl Wd l - 1) / 2 ^ sc i + 1) k := (((Sm.of h9 hn).mono (show j ≤ k - 1 by omega)).sub.div _).le1 (by omega)
    have hs2 : Sm ((vl Wd l - 1) / 2 ^ sc i) k := (((Sm.of h9 hn).mono (show j ≤ k by omega)).sub.div _)
    have hs0 : Sm (vl Wd l - 1) k := ((Sm.of h9 hn).mono (show j ≤ k by omega)).sub
    have hXe : X / 2 ^ sc i = zi true ((vl Wd l - 1) / 2 ^ sc i + 1) := by rw [hXN]; exact shr_neg hN0
    rw [hXe]
    clear hXe
    have hle : 1 ≤ vl Wd l := hN0
    clear hX hXN hX9 hN0
    generalize hN : vl Wd l = N at *
    have HN := Lib.hid hN; clear hN
    generalize hQ9 : (N - 1) / 2 ^ sc i = Q at *
    have HQ := Lib.hid hQ9; clear hQ9
    go_enter Tryd.func76, Tryd.ntmps76
    go_wp2_with fail
    obtain ⟨hb, x_a, x_r⟩ := box2 w b A n c false none 0 0
    generalize (w.alloc (.cells #[.bool b, .slice A n c] 24)).alloc (.cells #[.bool false, .slice none 0 0] 24) = v1 at *
    replace h := h.keep hb
    replace h9 := h9.go hb
    have q_a0 := x_a.c0; have q_a1 := x_a.c1; have f_a0 := x_a.fr 0; have f_a1 := x_a.fr 1
    have q_r0 := x_r.c0; have q_r1 := x_r.c1; have f_r0 := x_r.fr 0; have f_r1 := x_r.fr 1
    go_wp2_with fail
    with_reducible refine (ZSign_any h (by omega)).mono ?_
    rintro e v2 ⟨rfl, hb1⟩
    replace x_a := x_a.keep hb1
    replace x_r := x_r.keep hb1
    replace h := h.keep hb1
    replace h9 := h9.go hb1
    replace hb := bthen hb hb1
    clear hb1
    replace q_a0 := x_a.c0; replace q_a1 := x_a.c1; replace f_a0 := x_a.fr 0; replace f_a1 := x_a.fr 1
    replace q_r0 := x_r.c0; replace q_r1 := x_r.c1; replace f_r0 := x_r.fr 0; replace f_r1 := x_r.fr 1
    generalize sgnI X = s at *
    go_wp2_with fail
    have hb1 := below_alloc v2 (.cells #[.int .u64 1] 31)
    replace x_a := x_a.keep hb1
    replace x_r := x_r.keep hb1
    replace h := h.keep hb1
    replace h9 := h9.go hb1
    replace hb := bthen hb hb1
    clear hb1
    replace q_a0 := x_a.c0; replace q_a1 := x_a.c1; replace f_a0 := x_a.fr 0; replace f_a1 := x_a.fr 1
    replace q_r0 := x_r.c0; replace q_r1 := x_r.c1; replace f_r0 := x_r.fr 0; replace f_r1 := x_r.fr 1
    have u1 := lay1 v2 1 (lm_small (by omega) (by omega))
    clear q_a0 q_a1 f_a0 f_a1 q_r0 q_r1 f_r0 f_r1
    generalize v2.alloc (.cells #[.int .u64 1] 31) = v3 at *
    have q_a0 := x_a.c0; have q_a1 := x_a.c1; have f_a0 := x_a.fr 0; have f_a1 := x_a.fr 1
    have q_r0 := x_r.c0; have q_r1 := x_r.c1; have f_r0 := x_r.fr 0; have f_r1 := x_r.fr 1
    skip
    with_reducible refine (Sub_any _ _ _ _ _ _ _ _ _ h9 u1 (by omega) (by rw [HN.out, vl_one, show (1 : Int).toNat = 1 from rfl]; exact hle)).mono ?_
    rintro e v4 ⟨A1, n1, c1, rfl, g1, hb1⟩
    replace x_a := x_a.keep hb1
    replace x_r := x_r.keep hb1
    replace h := h.keep hb1
    replace h9 := h9.go hb1
    replace u1 := u1.go hb1
    replace hb := bthen hb hb1
    clear hb1
    replace q_a0 := x_a.c0; replace q_a1 := x_a.c1; replace f_a0 := x_a.fr 0; replace f_a1 := x_a.fr 1
    replace q_r0 := x_r.c0; replace q_r1 := x_r.c1; replace f_r0 := x_r.fr 0; replace f_r1 := x_r.fr 1
    rw [HN.out, vl_one, show (1 : Int).toNat = 1 from rfl] at g1
    have zn1 := g1.small hs0
    go_wp2_with fail
    with_reducible refine (Shr_own _ _ _ _ i _ g1 (by omega)).mono ?_
    rintro e v5 ⟨A3, n3, c3, rfl, g3, o3, hb1⟩
    replace o3 := o3.more hb.size
    replace x_a := x_a.keep hb1
    replace x_r := x_r.keep hb1
    replace h := h.keep hb1
    replace h9 := h9.go hb1
    replace u1 := u1.go hb1
    replace g1 := g1.go hb1
    replace hb := bthen hb hb1
    clear hb1
    replace q_a0 := x_a.c0; replace q_a1 := x_a.c1; replace f_a0 := x_a.fr 0; replace f_a1 := x_a.fr 1
    replace q_r0 := x_r.c0; replace q_r1 := x_r.c1; replace f_r0 := x_r.fr 0; replace f_r1 := x_r.fr 1
    rw [vl_dg Wd2, HQ.out] at g3
    have zn3 := g3.small hs2
    go_wp2_with fail
    with_reducible refine (inc_own g3 (by omega)).mono ?_
    rintro e v6 ⟨A4, n4, c4, rfl, g4, o4, hb1⟩
    replace o4 := o4.more hb.size
    replace x_a := x_a.keep hb1
    replace x_r := x_r.keep hb1
    replace h := h.keep hb1
    replace h9 := h9.go hb1
    replace u1 := u1.go hb1
    replace g1 := g1.go hb1
    replace g3 := g3.go hb1
    replace o3 := o3.keep hb1
    replace hb := bthen hb hb1
    clear hb1
    replace q_a0 := x_a.c0; replace q_a1 := x_a.c1; replace f_a0 := x_a.fr 0; replace f_a1 := x_a.fr 1
    replace q_r0 := x_r.c0; replace q_r1 := x_r.c1; replace f_r0 := x_r.fr 0; replace f_r1 := x_r.fr 1
    rw [vl_dg Wd2] at g4
    go_wp2_with fail
    with_reducible refine (signed_any true A4 n4 c4 (Q + 1) _ k g4 hs).mono ?_
    rintro e v7 ⟨rfl, z1, hb1⟩
    replace x_a := x_a.keep hb1
    replace x_r := x_r.keep hb1
    replace h := h.keep hb1
    replace h9 := h9.go hb1
    replace u1 := u1.go hb1
    replace g1 := g1.go hb1
    replace g3 := g3.go hb1
    replace o3 := o3.keep hb1
    replace g4 := g4.go hb1
    replace o4 := o4.keep hb1
    replace hb := bthen hb hb1
    clear hb1
    replace q_a0 := x_a.c0; replace q_a1 := x_a.c1; replace f_a0 := x_a.fr 0; replace f_a1 := x_a.fr 1
    replace q_r0 := x_r.c0; replace q_r1 := x_r.c1; replace f_r0 := x_r.fr 0; replace f_r1 := x_r.fr 1
    go_wp2
    replace x_a := x_a.aside (b' := (ngB (zi true (Q + 1)))) (A' := A4) (n' := n4) (c' := c4) (g := w.heap.size + 1) (by omega)
    replace h := h.put (b' := (ngB (zi true (Q + 1)))) (A' := A4) (n' := n4) (c' := c4) x_r
    replace h9 := h9.sput (b' := (ngB (zi true (Q + 1)))) (A' := A4) (n' := n4) (c' := c4) x_r
    replace u1 := u1.sput (b' := (ngB (zi true (Q + 1)))) (A' := A4) (n' := n4) (c' := c4) x_r
    replace g1 := g1.sput (b' := (ngB (zi true (Q + 1)))) (A' := A4) (n' := n4) (c' := c4) x_r
    replace g3 := g3.sput (b' := (ngB (zi true (Q + 1)))) (A' := A4) (n' := n4) (c' := c4) x_r
    replace o3 := o3.put (b' := (ngB (zi true (Q + 1)))) (A' := A4) (n' := n4) (c' := c4) x_r
    replace g4 := g4.sput (b' := (ngB (zi true (Q + 1)))) (A' := A4) (n' := n4) (c' := c4) x_r
    replace o4 := o4.put (b' := (ngB (zi true (Q + 1)))) (A' := A4) (n' := n4) (c' := c4) x_r
    replace z1 := z1.put (b' := (ngB (zi true (Q + 1)))) (A' := A4) (n' := n4) (c' := c4) x_r
    replace hb := put_below (g := w.heap.size + 1) hb (by omega) (.bool (ngB (zi true (Q + 1)))) (.slice A4 n4 c4)
    replace x_r := x_r.put (ngB (zi true (Q + 1))) A4 n4 c4
    clear q_a0 q_a1 f_a0 f_a1 q_r0 q_r1 f_r0 f_r1
    generalize (v7.setCell ⟨w.heap.size + 1, 0, none⟩ (.bool (ngB (zi true (Q + 1))))).setCell ⟨w.heap.size + 1, 1, none⟩ (.slice A4 n4 c4) = v8 at *
    have q_a0 := x_a.c0; have q_a1 := x_a.c1; have f_a0 := x_a.fr 0; have f_a1 := x_a.fr 1
    have q_r0 := x_r.c0; have q_r1 := x_r.c1; have f_r0 := x_r.fr 0; have f_r1 := x_r.fr 1
    refine bodyPost_ret (v := .agg #[.bool (ngB (zi true (Q + 1))), .slice A4 n4 c4]) (by simp [results, Tryd.results76, go_sem, q_r0, q_r1]) rfl ?_
    exact ⟨_, _, _, rfl, z1, o4, hb⟩
  · have hsg : 0 ≤ sgnI X := by have := mt sgnI_lt0.1 hX; omega
    have hsb := sgnI_is X
    obtain ⟨l, h9, hX9, hn⟩ := id h
    have hXN : X = ((vl Wd l : Nat) : Int) := by rw [← hX9] at hX ⊢; exact zi_nn (by omega)
    have hs : Sm (vl Wd l / 2 ^ sc i) k := (((Sm.of h9 hn).mono (show j ≤ k by omega)).div _)
    rw [shr_nn hXN]
    clear hX hXN hX9
    generalize hN : vl Wd l = N at *
    have HN := Lib.hid hN; clear hN
    generalize hQ9 : N / 2 ^ sc i = Q at *
    have HQ := Lib.hid hQ9; clear hQ9
    go_enter Tryd.func76, Tryd.ntmps76
    go_wp2_with fail
    obtain ⟨hb, x_a, x_r⟩ := box2 w b A n c false none 0 0
    generalize (w.alloc (.cells #[.bool b, .slice A n c] 24)).alloc (.cells #[.bool false, .slice none 0 0] 24) = v1 at *
    replace h := h.keep hb
    replace h9 := h9.go hb
    have q_a0 := x_a.c0; have q_a1 := x_a.c1; have f_a0 := x_a.fr 0; have f_a1 := x_a.fr 1
    have q_r0 := x_r.c0; have q_r1 := x_r.c1; have f_r0 := x_r.fr 0; have f_r1 := x_r.fr 1
    go_wp2_with fail
    with_reducible refine (ZSign_any h (by omega)).mono ?_
    rintro e v2 ⟨rfl, hb1⟩
    replace x_a := x_a.keep hb1
    replace x_r := x_r.keep hb1
    replace h := h.keep hb1
    replace h9 := h9.go hb1
    replace hb := bthen hb hb1
    clear hb1
    replace q_a0 := x_a.c0; replace q_a1 := x_a.c1; replace f_a0 := x_a.fr 0; replace f_a1 := x_a.fr 1
    replace q_r0 := x_r.c0; replace q_r1 := x_r.c1; replace f_r0 := x_r.fr 0; replace f_r1 := x_r.fr 1
    generalize sgnI X = s at *
    go_wp2_with fail
    with_reducible refine (Shr_own _ _ _ _ i _ h9 (by omega)).mono ?_
    rintro e v3 ⟨A3, n3, c3, rfl, g3, o3, hb1⟩
    replace o3 := o3.more hb.size
    replace x_a := x_a.keep hb1
    replace x_r := x_r.keep hb1
    replace h := h.keep hb1
    replace h9 := h9.go hb1
    replace hb := bthen hb hb1
    clear hb1
    replace q_a0 := x_a.c0; replace q_a1 := x_a.c1; replace f_a0 := x_a.fr 0; replace f_a1 := x_a.fr 1
    replace q_r0 := x_r.c0; replace q_r1 := x_r.c1; replace f_r0 := x_r.fr 0; replace f_r1 := x_r.fr 1
    rw [HN.out, HQ.out] at g3
    go_wp2_with fail
    with_reducible refine (signed_any false A3 n3 c3 Q _ k g3 hs).mono ?_
    rintro e v4 ⟨rfl, z1, hb1⟩
    replace x_a := x_a.keep hb1
    replace x_r := x_r.keep hb1
    replace h := h.keep hb1
    replace h9 := h9.go hb1
    replace g3 := g3.go hb1
    replace o3 := o3.keep hb1
    replace hb := bthen hb hb1
    clear hb1
    replace q_a0 := x_a.c0; replace q_a1 := x_a.c1; replace f_a0 := x_a.fr 0; replace f_a1 := x_a.fr 1
    replace q_r0 := x_r.c0; replace q_r1 := x_r.c1; replace f_r0 := x_r.fr 0; replace f_r1 := x_r.fr 1
    go_wp2
    replace x_a := x_a.aside (b' := (ngB (zi false Q))) (A' := A3) (n' := n3) (c' := c3) (g := w.heap.size + 1) (by omega)
    replace h := h.put (b' := (ngB (zi false Q))) (A' := A3) (n' := n3) (c' := c3) x_r
    replace h9 := h9.sput (b' := (ngB (zi false Q))) (A' := A3) (n' := n3) (c' := c3) x_r
    replace g3 := g3.sput (b' := (ngB (zi false Q))) (A' := A3) (n' := n3) (c' := c3) x_r
    replace o3 := o3.put (b' := (ngB (zi false Q))) (A' := A3) (n' := n3) (c' := c3) x_r
    replace z1 := z1.put (b' := (ngB (zi false Q))) (A' := A3) (n' := n3) (c' := c3) x_r
    replace hb := put_below (g := w.heap.size + 1) hb (by omega) (.bool (ngB (zi false Q))) (.slice A3 n3 c3)
    replace x_r := x_r.put (ngB (zi false Q)) A3 n3 c3
    clear q_a0 q_a1 f_a0 f_a1 q_r0 q_r1 f_r0 f_r1
    generalize (v4.setCell ⟨w.heap.size + 1, 0, none⟩ (.bool (ngB (zi false Q)))).setCell ⟨w.heap.size + 1, 1, none⟩ (.slice A3 n3 c3) = v5 at *
    have q_a0 := x_a.c0; have q_a1 := x_a.c1; have f_a0 := x_a.fr 0; have f_a1 := x_a.fr 1
    have q_r0 := x_r.c0; have q_r1 := x_r.c1; have f_r0 := x_r.fr 0; have f_r1 := x_r.fr 1
    refine bodyPost_ret (v := .agg #[.bool (ngB (zi false Q)), .slice A3 n3 c3]) (by simp [results, Tryd.results76, go_sem, q_r0, q_r1]) rfl ?_
    exact ⟨_, _, _, rfl, z1, o3, hb⟩
end
end Go.Proofs.YtcoidcbbdibnaaaDoor
namespace Go.Proofs.YtcoidcbbdibnaaaDoor
section
open Go.RowKit
set_option linter.unusedVariables false

theorem OutDO.nil0 {w w' : World} {X e : Int} (k : Nat) (h : X = 0) (hb : Below w.heap.size w w') : OutDO w (od X) (nE X e) k (.returned (.agg #[.bool false, .slice none 0 0, .int .i64 0])) w' := by
  subst h
  exact ⟨_, _, _, rfl, Zn.nil0 _ _, fun h9 => absurd h9 (by omega), hb⟩

set_option maxRecDepth 100000 in
set_option maxHeartbeats 8000000 in
theorem result_own {b : Bool} {A : Option Addr} {n c : Nat} {X : Int} {j : Nat} {w : World} (h : Zr w b A n c X j) (hT : Tab w) (e : Int) (he : -100000 ≤ e ∧ e ≤ 100000) (k : Nat) (hk : j + 1 ≤ k) (hj : k ≤ 1000000) :
    Calls Tryd.prog 46 #[.agg #[.bool b, .slice A n c], .int .i64 e] w (OutDO w (od X) (nE X e) k) := by
  have hsg := sgnI_is X
  by_cases hX : X = 0
  · have hs0 := sgnI_eq0.2 hX
    have HS := Lib.hid hs0; have HX := Lib.hid hX; clear hs0 hX hsg
    go_enter Tryd.func46, Tryd.ntmps46
    go_wp2_with fail
    have x_m : Bx (w.alloc (.cells #[.bool b, .slice A n c] 24)) (w.heap.size) b A n c := by have := Bx.new w b A n c; simpa using this
    replace x_m := x_m.alloc (.cells #[.bool false, .slice none 0 0, .int .i64 0] 26)
    have x_r : Dx ((w.alloc (.cells #[.bool b, .slice A n c] 24)).alloc (.cells #[.bool false, .slice none 0 0, .int .i64 0] 26)) (w.heap.size + 1) false none 0 0 0 := by have := Dx.new (w.alloc (.cells #[.bool b, .slice A n c] 24)) false none 0 0 0; simpa using this
    have hb : Below w.heap.size w ((w.alloc (.cells #[.bool b, .slice A n c] 24)).alloc (.cells #[.bool false, .slice none 0 0, .int .i64 0] 26)) := (Below.alloc (Below.alloc (Below.refl w.heap.size w) (by simp) (.cells #[.bool b, .slice A n c] 24)) (by simp) (.cells #[.bool false, .slice none 0 0, .int .i64 0] 26))
    generalize (w.alloc (.cells #[.bool b, .slice A n c] 24)).alloc (.cells #[.bool false, .slice none 0 0, .int .i64 0] 26) = v1 at *
    replace h := h.keep hb
    replace hT := hT.keep hb
    have q_m0 := x_m.c0; have q_m1 := x_m.c1; have f_m0 := x_m.fr 0; have f_m1 := x_m.fr 1
    have q_r0 := x_r.c0; have q_r1 := x_r.c1; have f_r0 := x_r.fr 0; have f_r1 := x_r.fr 1; have q_r2 := x_r.c2; have f_r2 := x_r.fr 2
    go_wp2_with fail
    with_reducible refine (ZSign_any h (by omega)).mono ?_
    rintro e v2 ⟨rfl, hb1⟩
    replace x_m := x_m.keep hb1
    replace x_r := x_r.keep hb1
    replace h := h.keep hb1
    replace hT := hT.keep hb1
    replace hb := bthen hb hb1
    clear hb1
    replace q_m0 := x_m.c0; replace q_m1 := x_m.c1; replace f_m0 := x_m.fr 0; replace f_m1 := x_m.fr 1
    replace q_r0 := x_r.c0; replace q_r1 := x_r.c1; replace f_r0 := x_r.fr 0; replace f_r1 := x_r.fr 1; replace q_r2 := x_r.c2; replace f_r2 := x_r.fr 2
    rw [HS.out]
    go_wp2
    replace x_m := x_m.asideD (b' := false) (A' := none) (n' := 0) (c' := 0) (e' := 0) (g := w.heap.size + 1) (by omega)
    replace h := h.putD (b' := false) (A' := none) (n' := 0) (c' := 0) (e' := 0) x_r
    replace hT := hT.putD (b' := false) (A' := none) (n' := 0) (c' := 0) (e' := 0) x_r
    replace hb := put_belowD (g := w.heap.size + 1) hb (by omega) (.bool false) (.slice none 0 0) (.int .i64 0)
    replace x_r := x_r.put false none 0 0 0
    clear q_m0 q_m1 f_m0 f_m1 q_r0 q_r1 f_r0 f_r1 q_r2 f_r2
    generalize ((v2.setCell ⟨w.heap.size + 1, 0, none⟩ (.bool false)).setCell ⟨w.heap.size + 1, 1, none⟩ (.slice none 0 0)).setCell ⟨w.heap.size + 1, 2, none⟩ (.int .i64 0) = v3 at *
    have q_m0 := x_m.c0; have q_m1 := x_m.c1; have f_m0 := x_m.fr 0; have f_m1 := x_m.fr 1
    have q_r0 := x_r.c0; have q_r1 := x_r.c1; have f_r0 := x_r.fr 0; have f_r1 := x_r.fr 1; have q_r2 := x_r.c2; have f_r2 := x_r.fr 2
    refine bodyPost_ret (v := .agg #[.bool false, .slice none 0 0, .int .i64 0]) (by simp [results, Tryd.results46, go_sem, q_r0, q_r1, q_r2]) rfl ?_
    exact OutDO.nil0 k HX.out hb
  · have hs0 : (sgnI X == 0) = false := by rw [beq_eq_false_iff_ne]; exact fun h0 => hX (sgnI_eq0.1 h0)
    obtain ⟨l, hr, hz, hn⟩ := id h
    have hlen := hr.len
    have hN : vl Wd l ≠ 0 := fun h0 => hX (by rw [← hz, h0]; cases b <;> rfl)
    have hn0 : 0 < n := by
      rcases Nat.eq_zero_or_pos n with h0 | h0
      · exact absurd (by rw [List.eq_nil_of_length_eq_zero (hlen.trans h0)]; rfl) hN
      · exact h0
    have hcap := hr.cap; have hbig := hr.big; have hlim := hr.lim
    have HLEN := Lib.hid hlen; have HN := Lib.hid hN; have HX := Lib.hid hX; have HZ := Lib.hid hz
    clear hlen hN hX hz
    go_enter Tryd.func46, Tryd.ntmps46
    go_wp2_with fail
    have x_m : Bx (w.alloc (.cells #[.bool b, .slice A n c] 24)) (w.heap.size) b A n c := by have := Bx.new w b A n c; simpa using this
    replace x_m := x_m.alloc (.cells #[.bool false, .slice none 0 0, .int .i64 0] 26)
    have x_r : Dx ((w.alloc (.cells #[.bool b, .slice A n c] 24)).alloc (.cells #[.bool false, .slice none 0 0, .int .i64 0] 26)) (w.heap.size + 1) false none 0 0 0 := by have := Dx.new (w.alloc (.cells #[.bool b, .slice A n c] 24)) false none 0 0 0; simpa using this
    have hb : Below w.heap.size w ((w.alloc (.cells #[.bool b, .slice A n c] 24)).alloc (.cells #[.bool false, .slice none 0 0, .int .i64 0] 26)) := (Below.alloc (Below.alloc (Below.refl w.heap.size w) (by simp) (.cells #[.bool b, .slice A n c] 24)) (by simp) (.cells #[.bool false, .slice none 0 0, .int .i64 0] 26))
    generalize (w.alloc (.cells #[.bool b, .slice A n c] 24)).alloc (.cells #[.bool false, .slice none 0 0, .int .i64 0] 26) = v1 at *
    replace h := h.keep hb
    replace hT := hT.keep hb
    replace hr := hr.go hb
    have q_m0 := x_m.c0; have q_m1 := x_m.c1; have f_m0 := x_m.fr 0; have f_m1 := x_m.fr 1
    have q_r0 := x_r.c0; have q_r1 := x_r.c1; have f_r0 := x_r.fr 0; have f_r1 := x_r.fr 1; have q_r2 := x_r.c2; have f_r2 := x_r.fr 2
    go_wp2_with fail
    with_reducible refine (ZSign_any h (by omega)).mono ?_
    rintro e v2 ⟨rfl, hb1⟩
    replace x_m := x_m.keep hb1
    replace x_r := x_r.keep hb1
    replace h := h.keep hb1
    replace hT := hT.keep hb1
    replace hr := hr.go hb1
    replace hb := bthen hb hb1
    clear hb1
    replace q_m0 := x_m.c0; replace q_m1 := x_m.c1; replace f_m0 := x_m.fr 0; replace f_m1 := x_m.fr 1
    replace q_r0 := x_r.c0; replace q_r1 := x_r.c1; replace f_r0 := x_r.fr 0; replace f_r1 := x_r.fr 1; replace q_r2 := x_r.c2; replace f_r2 := x_r.fr 2
    generalize sgnI X = sg at *
    clear h
    obtain ⟨bl0, of0, rfl, hbl, hcell⟩ := hr.at_ hn0
    have HCELL := Lib.hid hcell; clear hcell
    go_wp2_with fail
    go_loop [5] (fun i => ∃ q : Nat, q < n ∧ i = .int .i64 q ∧ Hid (vl Wd (l.take q) = 0)) (fun i => n - (intOf i).toNat)
    case atStart => exact ⟨0, hn0, rfl, Lib.hid rfl⟩
    case round =>
      obtain ⟨q, hq, rfl, HQ⟩ := hrel
      have hql : q < l.length := by have := HLEN.out; omega
      have hcq := HCELL.out q hql
      have hts := vl_take_succ Wd l q hql
      have hxl : Lm l[q] := hlim.get hql
      have hlow := fun t m => @low_limb l hlim q t m hql HQ.out
      have HTS := Lib.hid hts; have HLOW := Lib.hid hlow; clear hts hlow
      generalize hxe : l[q] = x at *
      have HXE := Lib.hid hxe; clear hxe
      by_cases hx0 : x = 0
      · subst hx0
        have hqq : vl Wd (l.take (q + 1)) = 0 := by have := HTS.out; rw [HQ.out] at this; simpa using this
        have hq1 : q + 1 < n := by
          rcases Nat.lt_or_ge (q + 1) n with h1 | h1
          · exact h1
          · exact absurd (by rw [List.take_of_length_le (by have := HLEN.out; omega)] at hqq; exact hqq) HN.out
        have HQQ := Lib.hid hqq; clear hqq
        go_wp2
        go_round
        case rel => exact ⟨q + 1, hq1, by go_num, HQQ⟩
        case measure => simp [intOf]; omega
      · have hxb : (x == 0) = false := by rw [beq_eq_false_iff_ne]; exact hx0
        go_wp2_with fail
        with_reducible refine (TZ_any x _ hxl hx0 hT).mono ?_
        rintro e9 w9 ⟨t, m, ht, hxt, rfl, rfl⟩
        obtain ⟨p, hp, hP, hXp⟩ := HLOW.out t m hxt ht b
        rw [HZ.out] at hXp
        obtain ⟨hz1, hz2⟩ := nf_unique hXp hp
        have hnE : nE X e = e + (64 * q + t : Nat) := by rw [nE_ne HX.out, hz1]
        have HZ2 := Lib.hid hz2; have HNE := Lib.hid hnE
        clear hz1 hz2 hnE hXp
        obtain ⟨bl1, of1, he1, hd⟩ := hr.drop hq
        injection he1 with he1; injection he1 with he1 he2; subst he1 he2
        have hzd : Zr v2 b (some ⟨bl0, of0 + q, none⟩) (n - q) (c - q) (p * 2 ^ t) j := ⟨_, hd, hP, by omega⟩
        clear hd
        have hqn : q ≤ n := by omega
        have hqc : q ≤ c := by omega
        go_wp2_with fail
        go_region_held3 (fun w' => w'.cell? ⟨w.heap.size, 0, none⟩ = some (.bool b) ∧ w'.cell? ⟨w.heap.size, 1, none⟩ = some (.slice (some ⟨bl0, of0, none⟩) n c))
          (first | (with_reducible exact ⟨x_m.c0, x_m.c1⟩) | (with_reducible exact ⟨(x_m.aside (by omega)).c0, (x_m.aside (by omega)).c1⟩) | (with_reducible exact ⟨((x_m.aside (by omega)).aside (by omega)).c0, ((x_m.aside (by omega)).aside (by omega)).c1⟩) | (with_reducible exact ⟨(x_m.asideD (by omega)).c0, (x_m.asideD (by omega)).c1⟩) | (with_reducible exact ⟨((x_m.asideD (by omega)).asideD (by omega)).c0, ((x_m.asideD (by omega)).asideD (by omega)).c1⟩) | go_keep)
          (first | fail)
        go_wp2_with fail
        have hsc := sc_nat (t := t) (by omega)
        have HSC := Lib.hid hsc; clear hsc
        have hb1 := below_drew (below_alloc v2 (.cells #[.bool b, .slice (some ⟨bl0, of0 + q, none⟩) (n - q) (c - q)] 24))
        have l_m_s := x_m.lt
        have l_r_s := x_r.lt
        have x_s := (Bx.new v2 b (some ⟨bl0, of0 + q, none⟩) (n - q) (c - q)).drew
        have e_s : w.heap.size ≤ v2.heap.size := hb.size
        replace x_m := x_m.keep hb1
        replace x_r := x_r.keep hb1
        replace hT := hT.keep hb1
        replace hr := hr.go hb1
        replace hzd := hzd.keep hb1
        replace hb := bthen hb hb1
        clear hb1
        replace q_m0 := x_m.c0; replace q_m1 := x_m.c1; replace f_m0 := x_m.fr 0; replace f_m1 := x_m.fr 1
        replace q_r0 := x_r.c0; replace q_r1 := x_r.c1; replace f_r0 := x_r.fr 0; replace f_r1 := x_r.fr 1; replace q_r2 := x_r.c2; replace f_r2 := x_r.fr 2
        clear q_m0 q_m1 f_m0 f_m1 q_r0 q_r1 f_r0 f_r1 q_r2 f_r2
        generalize (v2.alloc (.cells #[.bool b, .slice (some ⟨bl0, of0 + q, none⟩) (n - q) (c - q)] 24)).drew = v3 at *
        have q_m0 := x_m.c0; have q_m1 := x_m.c1; have f_m0 := x_m.fr 0; have f_m1 := x_m.fr 1
        have q_r0 := x_r.c0; have q_r1 := x_r.c1; have f_r0 := x_r.fr 0; have f_r1 := x_r.fr 1; have q_r2 := x_r.c2; have f_r2 := x_r.fr 2
        have q_s0 := x_s.c0; have q_s1 := x_s.c1; have f_s0 := x_s.fr 0; have f_s1 := x_s.fr 1
        skip
        with_reducible refine (ZShr_own hzd (t : Int) k hk hj).mono ?_
        rintro e v4 ⟨A3, n3, c3, rfl, z1, o1, hb1⟩
        replace o1 := o1.more hb.size
        replace x_m := x_m.keep hb1
        replace x_r := x_r.keep hb1
        replace x_s := x_s.keep hb1
        replace hT := hT.keep hb1
        replace hr := hr.go hb1
        replace hzd := hzd.keep hb1
        replace hb := bthen hb hb1
        clear hb1
        replace q_m0 := x_m.c0; replace q_m1 := x_m.c1; replace f_m0 := x_m.fr 0; replace f_m1 := x_m.fr 1
        replace q_r0 := x_r.c0; replace q_r1 := x_r.c1; replace f_r0 := x_r.fr 0; replace f_r1 := x_r.fr 1; replace q_r2 := x_r.c2; replace f_r2 := x_r.fr 2
        replace q_s0 := x_s.c0; replace q_s1 := x_s.c1; replace f_s0 := x_s.fr 0; replace f_s1 := x_s.fr 1
        rw [HSC.out, exact_shr] at z1 ⊢
        have e3 : (e + q * 64 + t : Int) = e + (64 * q + t : Nat) := by omega
        have HE3 := Lib.hid e3; clear e3
        go_wp2
        replace x_m := x_m.asideD (b' := (ngB p)) (A' := A3) (n' := n3) (c' := c3) (e' := (e + q * 64 + t)) (g := w.heap.size + 1) (by omega)
        replace x_s := x_s.asideD (b' := (ngB p)) (A' := A3) (n' := n3) (c' := c3) (e' := (e + q * 64 + t)) (g := w.heap.size + 1) (by omega)
        replace hT := hT.putD (b' := (ngB p)) (A' := A3) (n' := n3) (c' := c3) (e' := (e + q * 64 + t)) x_r
        replace hr := hr.sputD (b' := (ngB p)) (A' := A3) (n' := n3) (c' := c3) (e' := (e + q * 64 + t)) x_r
        replace hzd := hzd.putD (b' := (ngB p)) (A' := A3) (n' := n3) (c' := c3) (e' := (e + q * 64 + t)) x_r
        replace z1 := z1.putD (b' := (ngB p)) (A' := A3) (n' := n3) (c' := c3) (e' := (e + q * 64 + t)) x_r
        replace o1 := o1.putD (b' := (ngB p)) (A' := A3) (n' := n3) (c' := c3) (e' := (e + q * 64 + t)) x_r
        replace hb := put_belowD (g := w.heap.size + 1) hb (by omega) (.bool (ngB p)) (.slice A3 n3 c3) (.int .i64 (e + q * 64 + t))
        replace x_r := x_r.put (ngB p) A3 n3 c3 (e + q * 64 + t)
        clear q_m0 q_m1 f_m0 f_m1 q_r0 q_r1 f_r0 f_r1 q_r2 f_r2 q_s0 q_s1 f_s0 f_s1
        generalize ((v4.setCell ⟨w.heap.size + 1, 0, none⟩ (.bool (ngB p))).setCell ⟨w.heap.size + 1, 1, none⟩ (.slice A3 n3 c3)).setCell ⟨w.heap.size + 1, 2, none⟩ (.int .i64 (e + q * 64 + t)) = v5 at *
        have q_m0 := x_m.c0; have q_m1 := x_m.c1; have f_m0 := x_m.fr 0; have f_m1 := x_m.fr 1
        have q_r0 := x_r.c0; have q_r1 := x_r.c1; have f_r0 := x_r.fr 0; have f_r1 := x_r.fr 1; have q_r2 := x_r.c2; have f_r2 := x_r.fr 2
        have q_s0 := x_s.c0; have q_s1 := x_s.c1; have f_s0 := x_s.fr 0; have f_s1 := x_s.fr 1
        refine bodyPost_ret (v := .agg #[.bool (ngB p), .slice A3 n3 c3, .int .i64 (e + q * 64 + t)]) (by simp [results, Tryd.results46, go_sem, q_r0, q_r1, q_r2]) rfl ?_
        exact ⟨_, _, _, by rw [HZ2.out, HNE.out, ← HE3.out], by rw [HZ2.out]; exact z1, o1, hb⟩

set_option maxRecDepth 100000 in
set_option maxHeartbeats 1000000 in
theorem DNorm_own {b : Bool} {A : Option Addr} {n c : Nat} {X e : Int} {j : Nat} {w : World} (h : Zr w b A n c X j) (hT : Tab w) (k : Nat) (hk : j + 1 ≤ k) (hj : k ≤ 1000000) :
    Calls Tryd.prog 11 #[.agg #[.bool b, .slice A n c, .int .i64 e]] w (OutDO w (od (cM X e)) (nE (cM X e) (cE e)) k) := by
  have hc := cE_in e
  go_enter Tryd.func11, Tryd.ntmps11
  go_wp2_with fail
  have x_a : Dx (w.alloc (.cells #[.bool b, .slice A n c, .int .i64 e] 26)) (w.heap.size) b A n c e := by have := Dx.new w b A n c e; simpa using this
  replace x_a := x_a.alloc (.cells #[.bool false, .slice none 0 0, .int .i64 0] 26)
  have x_r : Dx ((w.alloc (.cells #[.bool b, .slice A n c, .int .i64 e] 26)).alloc (.cells #[.bool false, .slice none 0 0, .int .i64 0] 26)) (w.heap.size + 1) false none 0 0 0 := by have := Dx.new (w.alloc (.cells #[.bool b, .slice A n c, .int .i64 e] 26)) false none 0 0 0; simpa using this
  have hb : Below w.heap.size w ((w.alloc (.cells #[.bool b, .slice A n c, .int .i64 e] 26)).alloc (.cells #[.bool false, .slice none 0 0, .int .i64 0] 26)) := (Below.alloc (Below.alloc (Below.refl w.heap.size w) (by simp) (.cells #[.bool b, .slice A n c, .int .i64 e] 26)) (by simp) (.cells #[.bool false, .slice none 0 0, .int .i64 0] 26))
  generalize (w.alloc (.cells #[.bool b, .slice A n c, .int .i64 e] 26)).alloc (.cells #[.bool false, .slice none 0 0, .int .i64 0] 26) = v1 at *
  replace h := h.keep hb
  replace hT := hT.keep hb
  have q_a0 := x_a.c0; have q_a1 := x_a.c1; have f_a0 := x_a.fr 0; have f_a1 := x_a.fr 1; have q_a2 := x_a.c2; have f_a2 := x_a.fr 2
  have q_r0 := x_r.c0; have q_r1 := x_r.c1; have f_r0 := x_r.fr 0; have f_r1 := x_r.fr 1; have q_r2 := x_r.c2; have f_r2 := x_r.fr 2
  go_wp2_with fail
  with_reducible refine (read_any h).mono ?_
  rintro e v2 ⟨b1, A1, n1, c1, rfl, zc, hb1⟩
  replace x_a := x_a.keep hb1
  replace x_r := x_r.keep hb1
  replace h := h.keep hb1
  replace hT := hT.keep hb1
  replace hb := bthen hb hb1
  clear hb1
  replace q_a0 := x_a.c0; replace q_a1 := x_a.c1; replace f_a0 := x_a.fr 0; replace f_a1 := x_a.fr 1; replace q_a2 := x_a.c2; replace f_a2 := x_a.fr 2
  replace q_r0 := x_r.c0; replace q_r1 := x_r.c1; replace f_r0 := x_r.fr 0; replace f_r1 := x_r.fr 1; replace q_r2 := x_r.c2; replace f_r2 := x_r.fr 2
  clear h
  go_wp2_with fail
  replace x_r := x_r.asideD (b' := b1) (A' := A1) (n' := n1) (c' := c1) (e' := (cE e)) (g := w.heap.size) (by omega)
  replace hT := hT.putD (b' := b1) (A' := A1) (n' := n1) (c' := c1) (e' := (cE e)) x_a
  replace zc := zc.putD (b' := b1) (A' := A1) (n' := n1) (c' := c1) (e' := (cE e)) x_a
  replace hb := put_belowD (g := w.heap.size) hb (by omega) (.bool b1) (.slice A1 n1 c1) (.int .i64 (cE e))
  replace x_a := x_a.put b1 A1 n1 c1 (cE e)
  clear q_a0 q_a1 f_a0 f_a1 q_a2 f_a2 q_r0 q_r1 f_r0 f_r1 q_r2 f_r2
  generalize ((v2.setCell ⟨w.heap.size, 0, none⟩ (.bool b1)).setCell ⟨w.heap.size, 1, none⟩ (.slice A1 n1 c1)).setCell ⟨w.heap.size, 2, none⟩ (.int .i64 (cE e)) = v3 at *
  have q_a0 := x_a.c0; have q_a1 := x_a.c1; have f_a0 := x_a.fr 0; have f_a1 := x_a.fr 1; have q_a2 := x_a.c2; have f_a2 := x_a.fr 2
  have q_r0 := x_r.c0; have q_r1 := x_r.c1; have f_r0 := x_r.fr 0; have f_r1 := x_r.fr 1; have q_r2 := x_r.c2; have f_r2 := x_r.fr 2
  have hszz := hb.size
  skip
  with_reducible refine (result_own zc hT (cE e) (by omega) k hk hj).mono ?_
  rintro e v4 ⟨A2, n2, c2, rfl, z1, o1, hb1⟩
  replace x_a := x_a.keep hb1
  replace x_r := x_r.keep hb1
  replace hT := hT.keep hb1
  replace zc := zc.keep hb1
  replace hb := bthen hb hb1
  clear hb1
  replace q_a0 := x_a.c0; replace q_a1 := x_a.c1; replace f_a0 := x_a.fr 0; replace f_a1 := x_a.fr 1; replace q_a2 := x_a.c2; replace f_a2 := x_a.fr 2
  replace q_r0 := x_r.c0; replace q_r1 := x_r.c1; replace f_r0 := x_r.fr 0; replace f_r1 := x_r.fr 1; replace q_r2 := x_r.c2; replace f_r2 := x_r.fr 2
  replace o1 := o1.more hszz
  go_wp2
  replace x_a := x_a.asideD (b' := (ngB (od (cM X e)))) (A' := A2) (n' := n2) (c' := c2) (e' := (nE (cM X e) (cE e))) (g := w.heap.size + 1) (by omega)
  replace hT := hT.putD (b' := (ngB (od (cM X e)))) (A' := A2) (n' := n2) (c' := c2) (e' := (nE (cM X e) (cE e))) x_r
  replace zc := zc.putD (b' := (ngB (od (cM X e)))) (A' := A2) (n' := n2) (c' := c2) (e' := (nE (cM X e) (cE e))) x_r
  replace z1 := z1.putD (b' := (ngB (od (cM X e)))) (A' := A2) (n' := n2) (c' := c2) (e' := (nE (cM X e) (cE e))) x_r
  replace o1 := o1.putD (b' := (ngB (od (cM X e)))) (A' := A2) (n' := n2) (c' := c2) (e' := (nE (cM X e) (cE e))) x_r
  replace hb := put_belowD (g := w.heap.size + 1) hb (by omega) (.bool (ngB (od (cM X e)))) (.slice A2 n2 c2) (.int .i64 (nE (cM X e) (cE e)))
  replace x_r := x_r.put (ngB (od (cM X e))) A2 n2 c2 (nE (cM X e) (cE e))
  clear q_a0 q_a1 f_a0 f_a1 q_a2 f_a2 q_r0 q_r1 f_r0 f_r1 q_r2 f_r2
  generalize ((v4.setCell ⟨w.heap.size + 1, 0, none⟩ (.bool (ngB (od (cM X e))))).setCell ⟨w.heap.size + 1, 1, none⟩ (.slice A2 n2 c2)).setCell ⟨w.heap.size + 1, 2, none⟩ (.int .i64 (nE (cM X e) (cE e))) = v5 at *
  have q_a0 := x_a.c0; have q_a1 := x_a.c1; have f_a0 := x_a.fr 0; have f_a1 := x_a.fr 1; have q_a2 := x_a.c2; have f_a2 := x_a.fr 2
  have q_r0 := x_r.c0; have q_r1 := x_r.c1; have f_r0 := x_r.fr 0; have f_r1 := x_r.fr 1; have q_r2 := x_r.c2; have f_r2 := x_r.fr 2
  refine bodyPost_ret (v := .agg #[.bool (ngB (od (cM X e))), .slice A2 n2 c2, .int .i64 (nE (cM X e) (cE e))]) (by simp [results, Tryd.results11, go_sem, q_r0, q_r1, q_r2]) rfl ?_
  exact ⟨_, _, _, rfl, z1, o1, hb⟩
end
end Go.Proofs.YtcoidcbbdibnaaaDoor
namespace Go.Proofs.YtcoidcbbdibnaaaDoor
section
open Go.RowKit
set_option linter.unusedVariables false

/-- A reading whose memory is another than block g. -/
def Far (A : Option Addr) (g : Nat) : Prop := ∀ p, A = some p → p.block ≠ g
theorem Rd.turned {w w' : World} {g n c : Nat} {A : Option Addr} {l : List Int} (h : Rd w w.heap.size A n c l) (hf : 0 < n → Far A g) (hg : w.grownBy w' (some g)) : Rd w' w'.heap.size A n c l := by
  refine ⟨h.1, h.2.1, h.2.2.1, h.2.2.2.1, fun hn => ?_⟩
  obtain ⟨b, off, e, hb, hc⟩ := h.at_ hn
  refine ⟨b, off, e, Nat.lt_of_lt_of_le hb hg.size, fun k hk => ?_⟩
  rw [← hc k hk]
  exact World.cell?_of_block (hg.block b hb (fun e9 => by injection e9 with e9; exact hf hn _ e e9))
theorem Tab.turned {w w' : World} {g : Nat} (h : Tab w) (hg : w.grownBy w' (some g)) (hne : 0 ≠ g) : Tab w' :=
  ⟨fun j hj => by
    rw [← h.at_ j hj]
    exact World.cell?_of_block (hg.block _ h.lt (fun e9 => by injection e9 with e9; exact hne e9))⟩
/-- What the loop keeps: the limbs are there, and nothing else has turned. -/
def OvRel (wS : World) (g L : Nat) (wr : World) : Prop := ∃ X : List Int, X.length = L ∧ Bk wr g X ∧ wS.grownBy wr (some g)
theorem far_of {w : World} {A : Option Addr} {n c g : Nat} {l : List Int} {B : Nat} (h : Rd w B A n c l) (hg : B ≤ g) : 0 < n → Far A g := fun hn => by
  obtain ⟨b, off, e, hb, _⟩ := h.at_ hn
  intro p hp
  rw [hp] at e; injection e with e; subst e
  exact Nat.ne_of_lt (Nat.lt_of_lt_of_le hb hg)

set_option maxRecDepth 100000 in
set_option maxHeartbeats 1000000 in
theorem REqual_raw {b : Bool} {A A2 : Option Addr} {n c n2 c2 : Nat} {l : List Int} {w : World} (h : Rd w w.heap.size A n c l) (h2 : Rd w w.heap.size A2 n2 c2 l) :
    Calls Tryd.prog 32 #[.agg #[.bool b, .slice A n c], .agg #[.bool b, .slice A2 n2 c2]] w fun e w' => e = .returned (.bool true) ∧ Below w.heap.size w w' := by
  go_enter Tryd.func32, Tryd.ntmps32
  go_wp2_with fail
  have x_a : Bx (w.alloc (.cells #[.bool b, .slice A n c] 24)) (w.heap.size) b A n c := by have := Bx.new w b A n c; simpa using this
  replace x_a := x_a.alloc (.cells #[.bool b, .slice A2 n2 c2] 24)
  have x_b : Bx ((w.alloc (.cells #[.bool b, .slice A n c] 24)).alloc (.cells #[.bool b, .slice A2 n2 c2] 24)) (w.heap.size + 1) b A2 n2 c2 := by have := Bx.new (w.alloc (.cells #[.bool b, .slice A n c] 24)) b A2 n2 c2; simpa using this
  have hb : Below w.heap.size w ((w.alloc (.cells #[.bool b, .slice A n c] 24)).alloc (.cells #[.bool b, .slice A2 n2 c2] 24)) := (Below.alloc (Below.alloc (Below.refl w.heap.size w) (by simp) (.cells #[.bool b, .slice A n c] 24)) (by simp) (.cells #[.bool b, .slice A2 n2 c2] 24))
  generalize (w.alloc (.cells #[.bool b, .slice A n c] 24)).alloc (.cells #[.bool b, .slice A2 n2 c2] 24) = v1 at *
  replace h := h.go hb
  replace h2 := h2.go hb
  have q_a0 := x_a.c0; have q_a1 := x_a.c1; have f_a0 := x_a.fr 0; have f_a1 := x_a.fr 1
  have q_b0 := x_b.c0; have q_b1 := x_b.c1; have f_b0 := x_b.fr 0; have f_b1 := x_b.fr 1
  refine (Same_any _ _ _ _ _ _ _ _ _ _ h h2).mono ?_
  rintro e v9 ⟨rfl, hq⟩
  rw [sameB_self]
  have hb1 := hq.bel; clear hq
  replace x_a := x_a.keep hb1
  replace x_b := x_b.keep hb1
  replace h := h.go hb1
  replace h2 := h2.go hb1
  replace hb := bthen hb hb1
  clear hb1
  replace q_a0 := x_a.c0; replace q_a1 := x_a.c1; replace f_a0 := x_a.fr 0; replace f_a1 := x_a.fr 1
  replace q_b0 := x_b.c0; replace q_b1 := x_b.c1; replace f_b0 := x_b.fr 0; replace f_b1 := x_b.fr 1
  go_wp2
  go_ret
  exact ⟨by simp, hb⟩

set_option maxRecDepth 100000 in
set_option maxHeartbeats 1000000 in
theorem Dequal_raw {b : Bool} {A A2 : Option Addr} {n c n2 c2 : Nat} {l : List Int} {e : Int} {w : World} (h : Rd w w.heap.size A n c l) (h2 : Rd w w.heap.size A2 n2 c2 l) :
    Calls Tryd.prog 12 #[.agg #[.bool b, .slice A n c, .int .i64 e], .agg #[.bool b, .slice A2 n2 c2, .int .i64 e]] w fun en w' => en = .returned (.bool true) ∧ Below w.heap.size w w' := by
  go_enter Tryd.func12, Tryd.ntmps12
  go_wp2_with fail
  have x_a : Dx (w.alloc (.cells #[.bool b, .slice A n c, .int .i64 e] 26)) (w.heap.size) b A n c e := by have := Dx.new w b A n c e; simpa using this
  replace x_a := x_a.alloc (.cells #[.bool b, .slice A2 n2 c2, .int .i64 e] 26)
  have x_b : Dx ((w.alloc (.cells #[.bool b, .slice A n c, .int .i64 e] 26)).alloc (.cells #[.bool b, .slice A2 n2 c2, .int .i64 e] 26)) (w.heap.size + 1) b A2 n2 c2 e := by have := Dx.new (w.alloc (.cells #[.bool b, .slice A n c, .int .i64 e] 26)) b A2 n2 c2 e; simpa using this
  have hb : Below w.heap.size w ((w.alloc (.cells #[.bool b, .slice A n c, .int .i64 e] 26)).alloc (.cells #[.bool b, .slice A2 n2 c2, .int .i64 e] 26)) := (Below.alloc (Below.alloc (Below.refl w.heap.size w) (by simp) (.cells #[.bool b, .slice A n c, .int .i64 e] 26)) (by simp) (.cells #[.bool b, .slice A2 n2 c2, .int .i64 e] 26))
  generalize (w.alloc (.cells #[.bool b, .slice A n c, .int .i64 e] 26)).alloc (.cells #[.bool b, .slice A2 n2 c2, .int .i64 e] 26) = v1 at *
  replace h := h.go hb
  replace h2 := h2.go hb
  have q_a0 := x_a.c0; have q_a1 := x_a.c1; have f_a0 := x_a.fr 0; have f_a1 := x_a.fr 1; have q_a2 := x_a.c2; have f_a2 := x_a.fr 2
  have q_b0 := x_b.c0; have q_b1 := x_b.c1; have f_b0 := x_b.fr 0; have f_b1 := x_b.fr 1; have q_b2 := x_b.c2; have f_b2 := x_b.fr 2
  go_wp2_with fail
  with_reducible refine (REqual_raw h h2).mono ?_
  rintro e v2 ⟨rfl, hb1⟩
  replace x_a := x_a.keep hb1
  replace x_b := x_b.keep hb1
  replace h := h.go hb1
  replace h2 := h2.go hb1
  replace hb := bthen hb hb1
  clear hb1
  replace q_a0 := x_a.c0; replace q_a1 := x_a.c1; replace f_a0 := x_a.fr 0; replace f_a1 := x_a.fr 1; replace q_a2 := x_a.c2; replace f_a2 := x_a.fr 2
  replace q_b0 := x_b.c0; replace q_b1 := x_b.c1; replace f_b0 := x_b.fr 0; replace f_b1 := x_b.fr 1; replace q_b2 := x_b.c2; replace f_b2 := x_b.fr 2
  go_wp2
  go_ret
  exact ⟨by simp, hb⟩

set_option maxRecDepth 100000 in
set_option maxHeartbeats 16000000 in
theorem DyadStands_any {b b2 : Bool} {A A2 : Option Addr} {n c n2 c2 : Nat} {l l2 : List Int} {e f : Int} {w : World} (hT : Tab w) (h : Rd w w.heap.size A n c l) (h2 : Rd w w.heap.size A2 n2 c2 l2) :
    Calls Tryd.prog 3 #[.agg #[.bool b, .slice A n c, .int .i64 e], .agg #[.bool b2, .slice A2 n2 c2, .int .i64 f]] w fun e w' => e = .returned (.bool true) ∧ Below w.heap.size w w' := by
  go_enter Tryd.func3, Tryd.ntmps3
  go_wp2_with fail
  have x_a : Dx (w.alloc (.cells #[.bool b, .slice A n c, .int .i64 e] 26)) (w.heap.size) b A n c e := by have := Dx.new w b A n c e; simpa using this
  replace x_a := x_a.alloc (.cells #[.bool b2, .slice A2 n2 c2, .int .i64 f] 26)
  have x_b : Dx ((w.alloc (.cells #[.bool b, .slice A n c, .int .i64 e] 26)).alloc (.cells #[.bool b2, .slice A2 n2 c2, .int .i64 f] 26)) (w.heap.size + 1) b2 A2 n2 c2 f := by have := Dx.new (w.alloc (.cells #[.bool b, .slice A n c, .int .i64 e] 26)) b2 A2 n2 c2 f; simpa using this
  have hb : Below w.heap.size w ((w.alloc (.cells #[.bool b, .slice A n c, .int .i64 e] 26)).alloc (.cells #[.bool b2, .slice A2 n2 c2, .int .i64 f] 26)) := (Below.alloc (Below.alloc (Below.refl w.heap.size w) (by simp) (.cells #[.bool b, .slice A n c, .int .i64 e] 26)) (by simp) (.cells #[.bool b2, .slice A2 n2 c2, .int .i64 f] 26))
  generalize (w.alloc (.cells #[.bool b, .slice A n c, .int .i64 e] 26)).alloc (.cells #[.bool b2, .slice A2 n2 c2, .int .i64 f] 26) = v1 at *
  replace h := h.go hb
  replace h2 := h2.go hb
  replace hT := hT.keep hb
  have q_a0 := x_a.c0; have q_a1 := x_a.c1; have f_a0 := x_a.fr 0; have f_a1 := x_a.fr 1; have q_a2 := x_a.c2; have f_a2 := x_a.fr 2
  have q_b0 := x_b.c0; have q_b1 := x_b.c1; have f_b0 := x_b.fr 0; have f_b1 := x_b.fr 1; have q_b2 := x_b.c2; have f_b2 := x_b.fr 2
  go_wp2_with fail
  with_reducible refine (Dshown_any hT).mono ?_
  rintro e v2 ⟨rfl, hb1⟩
  replace x_a := x_a.keep hb1
  replace x_b := x_b.keep hb1
  replace h := h.go hb1
  replace h2 := h2.go hb1
  replace hT := hT.keep hb1
  replace hb := bthen hb hb1
  clear hb1
  replace q_a0 := x_a.c0; replace q_a1 := x_a.c1; replace f_a0 := x_a.fr 0; replace f_a1 := x_a.fr 1; replace q_a2 := x_a.c2; replace f_a2 := x_a.fr 2
  replace q_b0 := x_b.c0; replace q_b1 := x_b.c1; replace f_b0 := x_b.fr 0; replace f_b1 := x_b.fr 1; replace q_b2 := x_b.c2; replace f_b2 := x_b.fr 2
  go_wp2_with fail
  with_reducible refine (Dcut_at h 12 12 rfl (by omega)).mono ?_
  rintro e v3 ⟨Aa_, na_, ca_, rfl, pa, ka, hb1⟩
  replace x_a := x_a.keep hb1
  replace x_b := x_b.keep hb1
  replace h := h.go hb1
  replace h2 := h2.go hb1
  replace hT := hT.keep hb1
  replace hb := bthen hb hb1
  clear hb1
  replace q_a0 := x_a.c0; replace q_a1 := x_a.c1; replace f_a0 := x_a.fr 0; replace f_a1 := x_a.fr 1; replace q_a2 := x_a.c2; replace f_a2 := x_a.fr 2
  replace q_b0 := x_b.c0; replace q_b1 := x_b.c1; replace f_b0 := x_b.fr 0; replace f_b1 := x_b.fr 1; replace q_b2 := x_b.c2; replace f_b2 := x_b.fr 2
  clear h
  go_wp2_with fail
  replace x_b := x_b.asideD (b' := b) (A' := Aa_) (n' := na_) (c' := ca_) (e' := e) (g := w.heap.size) (by omega)
  replace h2 := h2.sputD (b' := b) (A' := Aa_) (n' := na_) (c' := ca_) (e' := e) x_a
  replace hT := hT.putD (b' := b) (A' := Aa_) (n' := na_) (c' := ca_) (e' := e) x_a
  replace pa := pa.sputD (b' := b) (A' := Aa_) (n' := na_) (c' := ca_) (e' := e) x_a
  replace hb := put_belowD (g := w.heap.size) hb (by omega) (.bool b) (.slice Aa_ na_ ca_) (.int .i64 e)
  replace x_a := x_a.put b Aa_ na_ ca_ e
  clear q_a0 q_a1 f_a0 f_a1 q_a2 f_a2 q_b0 q_b1 f_b0 f_b1 q_b2 f_b2
  generalize ((v3.setCell ⟨w.heap.size, 0, none⟩ (.bool b)).setCell ⟨w.heap.size, 1, none⟩ (.slice Aa_ na_ ca_)).setCell ⟨w.heap.size, 2, none⟩ (.int .i64 e) = v4 at *
  have q_a0 := x_a.c0; have q_a1 := x_a.c1; have f_a0 := x_a.fr 0; have f_a1 := x_a.fr 1; have q_a2 := x_a.c2; have f_a2 := x_a.fr 2
  have q_b0 := x_b.c0; have q_b1 := x_b.c1; have f_b0 := x_b.fr 0; have f_b1 := x_b.fr 1; have q_b2 := x_b.c2; have f_b2 := x_b.fr 2
  with_reducible refine (Dcut_at h2 12 12 rfl (by omega)).mono ?_
  rintro e v5 ⟨Ab_, nb_, cb_, rfl, pb, kb, hb1⟩
  replace x_a := x_a.keep hb1
  replace x_b := x_b.keep hb1
  replace h2 := h2.go hb1
  replace hT := hT.keep hb1
  replace pa := pa.go hb1
  replace hb := bthen hb hb1
  clear hb1
  replace q_a0 := x_a.c0; replace q_a1 := x_a.c1; replace f_a0 := x_a.fr 0; replace f_a1 := x_a.fr 1; replace q_a2 := x_a.c2; replace f_a2 := x_a.fr 2
  replace q_b0 := x_b.c0; replace q_b1 := x_b.c1; replace f_b0 := x_b.fr 0; replace f_b1 := x_b.fr 1; replace q_b2 := x_b.c2; replace f_b2 := x_b.fr 2
  clear h2
  go_wp2_with fail
  replace x_a := x_a.asideD (b' := b2) (A' := Ab_) (n' := nb_) (c' := cb_) (e' := f) (g := w.heap.size + 1) (by omega)
  replace hT := hT.putD (b' := b2) (A' := Ab_) (n' := nb_) (c' := cb_) (e' := f) x_b
  replace pa := pa.sputD (b' := b2) (A' := Ab_) (n' := nb_) (c' := cb_) (e' := f) x_b
  replace pb := pb.sputD (b' := b2) (A' := Ab_) (n' := nb_) (c' := cb_) (e' := f) x_b
  replace hb := put_belowD (g := w.heap.size + 1) hb (by omega) (.bool b2) (.slice Ab_ nb_ cb_) (.int .i64 f)
  replace x_b := x_b.put b2 Ab_ nb_ cb_ f
  clear q_a0 q_a1 f_a0 f_a1 q_a2 f_a2 q_b0 q_b1 f_b0 f_b1 q_b2 f_b2
  generalize ((v5.setCell ⟨w.heap.size + 1, 0, none⟩ (.bool b2)).setCell ⟨w.heap.size + 1, 1, none⟩ (.slice Ab_ nb_ cb_)).setCell ⟨w.heap.size + 1, 2, none⟩ (.int .i64 f) = v6 at *
  have q_a0 := x_a.c0; have q_a1 := x_a.c1; have f_a0 := x_a.fr 0; have f_a1 := x_a.fr 1; have q_a2 := x_a.c2; have f_a2 := x_a.fr 2
  have q_b0 := x_b.c0; have q_b1 := x_b.c1; have f_b0 := x_b.fr 0; have f_b1 := x_b.fr 1; have q_b2 := x_b.c2; have f_b2 := x_b.fr 2
  generalize l.take 12 = la at *
  generalize l2.take 12 = lb at *
  obtain ⟨X, hXe⟩ : ∃ X, zi b (vl Wd la) = X := ⟨_, rfl⟩
  obtain ⟨Y, hYe⟩ : ∃ Y, zi b2 (vl Wd lb) = Y := ⟨_, rfl⟩
  have za : Zr v6 b Aa_ na_ ca_ X 12 := ⟨_, pa, hXe, ka⟩
  have zb : Zr v6 b2 Ab_ nb_ cb_ Y 12 := ⟨_, pb, hYe, kb⟩
  have htk : la.take 12 = la := List.take_of_length_le (by rw [pa.len]; exact ka)
  have HTK := Lib.hid htk; have HXE := Lib.hid hXe; have HYE := Lib.hid hYe; clear htk hXe hYe
  skip
  with_reducible refine (Dcut_at pa 12 12 rfl (by omega)).mono ?_
  rintro e v7 ⟨A7, n7, c7, rfl, po, ko, hb1⟩
  replace x_a := x_a.keep hb1
  replace x_b := x_b.keep hb1
  replace hT := hT.keep hb1
  replace pa := pa.go hb1
  replace pb := pb.go hb1
  replace za := za.keep hb1
  replace zb := zb.keep hb1
  replace hb := bthen hb hb1
  clear hb1
  replace q_a0 := x_a.c0; replace q_a1 := x_a.c1; replace f_a0 := x_a.fr 0; replace f_a1 := x_a.fr 1; replace q_a2 := x_a.c2; replace f_a2 := x_a.fr 2
  replace q_b0 := x_b.c0; replace q_b1 := x_b.c1; replace f_b0 := x_b.fr 0; replace f_b1 := x_b.fr 1; replace q_b2 := x_b.c2; replace f_b2 := x_b.fr 2
  rw [HTK.out] at po
  have y_a := (x_a.alloc (.cells #[.bool b, .slice A7 n7 c7, .int .i64 e] 26)); have yq_a0 := y_a.c0; have yq_a1 := y_a.c1; have yq_a2 := y_a.c2
  have y_b := (x_b.alloc (.cells #[.bool b, .slice A7 n7 c7, .int .i64 e] 26)); have yq_b0 := y_b.c0; have yq_b1 := y_b.c1; have yq_b2 := y_b.c2
  go_wp2_with fail
  clear y_a yq_a0 yq_a1 yq_a2 y_b yq_b0 yq_b1 yq_b2
  have hb1 := below_alloc v7 (.cells #[.bool b, .slice A7 n7 c7, .int .i64 e] 26)
  have l_a_o := x_a.lt
  have l_b_o := x_b.lt
  have x_o := Dx.new v7 b A7 n7 c7 e
  have e_o : w.heap.size ≤ v7.heap.size := hb.size
  replace x_a := x_a.keep hb1
  replace x_b := x_b.keep hb1
  replace hT := hT.keep hb1
  replace pa := pa.go hb1
  replace pb := pb.go hb1
  replace za := za.keep hb1
  replace zb := zb.keep hb1
  replace po := po.go hb1
  replace hb := bthen hb hb1
  clear hb1
  replace q_a0 := x_a.c0; replace q_a1 := x_a.c1; replace f_a0 := x_a.fr 0; replace f_a1 := x_a.fr 1; replace q_a2 := x_a.c2; replace f_a2 := x_a.fr 2
  replace q_b0 := x_b.c0; replace q_b1 := x_b.c1; replace f_b0 := x_b.fr 0; replace f_b1 := x_b.fr 1; replace q_b2 := x_b.c2; replace f_b2 := x_b.fr 2
  clear q_a0 q_a1 f_a0 f_a1 q_a2 f_a2 q_b0 q_b1 f_b0 f_b1 q_b2 f_b2
  generalize v7.alloc (.cells #[.bool b, .slice A7 n7 c7, .int .i64 e] 26) = v8 at *
  have q_a0 := x_a.c0; have q_a1 := x_a.c1; have f_a0 := x_a.fr 0; have f_a1 := x_a.fr 1; have q_a2 := x_a.c2; have f_a2 := x_a.fr 2
  have q_b0 := x_b.c0; have q_b1 := x_b.c1; have f_b0 := x_b.fr 0; have f_b1 := x_b.fr 1; have q_b2 := x_b.c2; have f_b2 := x_b.fr 2
  have q_o0 := x_o.c0; have q_o1 := x_o.c1; have f_o0 := x_o.fr 0; have f_o1 := x_o.fr 1; have q_o2 := x_o.c2; have f_o2 := x_o.fr 2
  have paB := pa; have pbB := pb; have poB := po; have ltT := hT.lt; have lta := x_a.lt; have ltb := x_b.lt; have lto := x_o.lt
  have hsz0 := hb.size
  skip
  with_reducible refine (DNorm_own za hT 13 (by omega) (by omega)).mono ?_
  rintro e v9 ⟨A5, n5, c5, rfl, z_x, o5, hb1⟩
  replace x_a := x_a.keep hb1
  replace x_b := x_b.keep hb1
  replace x_o := x_o.keep hb1
  replace hT := hT.keep hb1
  replace pa := pa.go hb1
  replace pb := pb.go hb1
  replace za := za.keep hb1
  replace zb := zb.keep hb1
  replace po := po.go hb1
  replace hb := bthen hb hb1
  clear hb1
  replace q_a0 := x_a.c0; replace q_a1 := x_a.c1; replace f_a0 := x_a.fr 0; replace f_a1 := x_a.fr 1; replace q_a2 := x_a.c2; replace f_a2 := x_a.fr 2
  replace q_b0 := x_b.c0; replace q_b1 := x_b.c1; replace f_b0 := x_b.fr 0; replace f_b1 := x_b.fr 1; replace q_b2 := x_b.c2; replace f_b2 := x_b.fr 2
  replace q_o0 := x_o.c0; replace q_o1 := x_o.c1; replace f_o0 := x_o.fr 0; replace f_o1 := x_o.fr 1; replace q_o2 := x_o.c2; replace f_o2 := x_o.fr 2
  have y_a := (x_a.alloc (.cells #[.bool (ngB (od (cM X e))), .slice A5 n5 c5, .int .i64 (nE (cM X e) (cE e))] 26)); have yq_a0 := y_a.c0; have yq_a1 := y_a.c1; have yq_a2 := y_a.c2
  have y_b := (x_b.alloc (.cells #[.bool (ngB (od (cM X e))), .slice A5 n5 c5, .int .i64 (nE (cM X e) (cE e))] 26)); have yq_b0 := y_b.c0; have yq_b1 := y_b.c1; have yq_b2 := y_b.c2
  have y_o := (x_o.alloc (.cells #[.bool (ngB (od (cM X e))), .slice A5 n5 c5, .int .i64 (nE (cM X e) (cE e))] 26)); have yq_o0 := y_o.c0; have yq_o1 := y_o.c1; have yq_o2 := y_o.c2
  go_wp2_with fail
  clear y_a yq_a0 yq_a1 yq_a2 y_b yq_b0 yq_b1 yq_b2 y_o yq_o0 yq_o1 yq_o2
  have hb1 := below_alloc v9 (.cells #[.bool (ngB (od (cM X e))), .slice A5 n5 c5, .int .i64 (nE (cM X e) (cE e))] 26)
  have l_a_x := x_a.lt
  have l_b_x := x_b.lt
  have l_o_x := x_o.lt
  have x_x := Dx.new v9 (ngB (od (cM X e))) A5 n5 c5 (nE (cM X e) (cE e))
  have e_x : w.heap.size ≤ v9.heap.size := hb.size
  replace x_a := x_a.keep hb1
  replace x_b := x_b.keep hb1
  replace x_o := x_o.keep hb1
  replace hT := hT.keep hb1
  replace pa := pa.go hb1
  replace pb := pb.go hb1
  replace za := za.keep hb1
  replace zb := zb.keep hb1
  replace po := po.go hb1
  replace z_x := z_x.keep hb1
  replace o5 := o5.keep hb1
  replace hb := bthen hb hb1
  clear hb1
  replace q_a0 := x_a.c0; replace q_a1 := x_a.c1; replace f_a0 := x_a.fr 0; replace f_a1 := x_a.fr 1; replace q_a2 := x_a.c2; replace f_a2 := x_a.fr 2
  replace q_b0 := x_b.c0; replace q_b1 := x_b.c1; replace f_b0 := x_b.fr 0; replace f_b1 := x_b.fr 1; replace q_b2 := x_b.c2; replace f_b2 := x_b.fr 2
  replace q_o0 := x_o.c0; replace q_o1 := x_o.c1; replace f_o0 := x_o.fr 0; replace f_o1 := x_o.fr 1; replace q_o2 := x_o.c2; replace f_o2 := x_o.fr 2
  clear q_a0 q_a1 f_a0 f_a1 q_a2 f_a2 q_b0 q_b1 f_b0 f_b1 q_b2 f_b2 q_o0 q_o1 f_o0 f_o1 q_o2 f_o2
  generalize v9.alloc (.cells #[.bool (ngB (od (cM X e))), .slice A5 n5 c5, .int .i64 (nE (cM X e) (cE e))] 26) = v10 at *
  have q_a0 := x_a.c0; have q_a1 := x_a.c1; have f_a0 := x_a.fr 0; have f_a1 := x_a.fr 1; have q_a2 := x_a.c2; have f_a2 := x_a.fr 2
  have q_b0 := x_b.c0; have q_b1 := x_b.c1; have f_b0 := x_b.fr 0; have f_b1 := x_b.fr 1; have q_b2 := x_b.c2; have f_b2 := x_b.fr 2
  have q_o0 := x_o.c0; have q_o1 := x_o.c1; have f_o0 := x_o.fr 0; have f_o1 := x_o.fr 1; have q_o2 := x_o.c2; have f_o2 := x_o.fr 2
  have q_x0 := x_x.c0; have q_x1 := x_x.c1; have f_x0 := x_x.fr 0; have f_x1 := x_x.fr 1; have q_x2 := x_x.c2; have f_x2 := x_x.fr 2
  go_region_held3 (fun w' => w'.cell? ⟨v9.heap.size, 0, none⟩ = some (.bool (ngB (od (cM X e)))) ∧ w'.cell? ⟨v9.heap.size, 1, none⟩ = some (.slice A5 n5 c5) ∧ w'.cell? ⟨v9.heap.size, 2, none⟩ = some (.int .i64 (nE (cM X e) (cE e))) ∧ w'.cell? ⟨w.heap.size, 0, none⟩ = some (.bool b) ∧ w'.cell? ⟨w.heap.size, 1, none⟩ = some (.slice Aa_ na_ ca_) ∧ w'.cell? ⟨w.heap.size, 2, none⟩ = some (.int .i64 e))
    (first | (with_reducible exact ⟨x_x.c0, x_x.c1, x_x.c2, x_a.c0, x_a.c1, x_a.c2⟩) | (with_reducible exact ⟨(x_x.aside (by omega)).c0, (x_x.aside (by omega)).c1, (x_x.aside (by omega)).c2, (x_a.aside (by omega)).c0, (x_a.aside (by omega)).c1, (x_a.aside (by omega)).c2⟩) | (with_reducible exact ⟨((x_x.aside (by omega)).aside (by omega)).c0, ((x_x.aside (by omega)).aside (by omega)).c1, ((x_x.aside (by omega)).aside (by omega)).c2, ((x_a.aside (by omega)).aside (by omega)).c0, ((x_a.aside (by omega)).aside (by omega)).c1, ((x_a.aside (by omega)).aside (by omega)).c2⟩) | (with_reducible exact ⟨(x_x.asideD (by omega)).c0, (x_x.asideD (by omega)).c1, (x_x.asideD (by omega)).c2, (x_a.asideD (by omega)).c0, (x_a.asideD (by omega)).c1, (x_a.asideD (by omega)).c2⟩) | (with_reducible exact ⟨((x_x.asideD (by omega)).asideD (by omega)).c0, ((x_x.asideD (by omega)).asideD (by omega)).c1, ((x_x.asideD (by omega)).asideD (by omega)).c2, ((x_a.asideD (by omega)).asideD (by omega)).c0, ((x_a.asideD (by omega)).asideD (by omega)).c1, ((x_a.asideD (by omega)).asideD (by omega)).c2⟩) | go_keep)
    (first | (go_at_call 13; (with_reducible refine (DRNorm_any za.drw (by omega)).mono ?_); rintro e v11 ⟨A6, n6, c6, rfl, z6, hb1⟩; replace hb1 := undrew hb1; replace x_a := x_a.keep hb1; replace x_b := x_b.keep hb1; replace x_o := x_o.keep hb1; replace x_x := x_x.keep hb1; replace hT := hT.keep hb1; replace pa := pa.go hb1; replace pb := pb.go hb1; replace za := za.keep hb1; replace zb := zb.keep hb1; replace po := po.go hb1; replace z_x := z_x.keep hb1; replace o5 := o5.keep hb1; replace hb := bthen hb hb1; clear hb1; replace q_a0 := x_a.c0; replace q_a1 := x_a.c1; replace f_a0 := x_a.fr 0; replace f_a1 := x_a.fr 1; replace q_a2 := x_a.c2; replace f_a2 := x_a.fr 2; replace q_b0 := x_b.c0; replace q_b1 := x_b.c1; replace f_b0 := x_b.fr 0; replace f_b1 := x_b.fr 1; replace q_b2 := x_b.c2; replace f_b2 := x_b.fr 2; replace q_o0 := x_o.c0; replace q_o1 := x_o.c1; replace f_o0 := x_o.fr 0; replace f_o1 := x_o.fr 1; replace q_o2 := x_o.c2; replace f_o2 := x_o.fr 2; replace q_x0 := x_x.c0; replace q_x1 := x_x.c1; replace f_x0 := x_x.fr 0; replace f_x1 := x_x.fr 1; replace q_x2 := x_x.c2; replace f_x2 := x_x.fr 2) | (go_at_call 12; (with_reducible refine (Dequal_any z_x z6 rfl rfl).mono ?_); rintro e v12 ⟨rfl, hb1⟩; replace x_a := x_a.keep hb1; replace x_b := x_b.keep hb1; replace x_o := x_o.keep hb1; replace x_x := x_x.keep hb1; replace hT := hT.keep hb1; replace pa := pa.go hb1; replace pb := pb.go hb1; replace za := za.keep hb1; replace zb := zb.keep hb1; replace po := po.go hb1; replace z_x := z_x.keep hb1; replace o5 := o5.keep hb1; replace z6 := z6.keep hb1; replace hb := bthen hb hb1; clear hb1; replace q_a0 := x_a.c0; replace q_a1 := x_a.c1; replace f_a0 := x_a.fr 0; replace f_a1 := x_a.fr 1; replace q_a2 := x_a.c2; replace f_a2 := x_a.fr 2; replace q_b0 := x_b.c0; replace q_b1 := x_b.c1; replace f_b0 := x_b.fr 0; replace f_b1 := x_b.fr 1; replace q_b2 := x_b.c2; replace f_b2 := x_b.fr 2; replace q_o0 := x_o.c0; replace q_o1 := x_o.c1; replace f_o0 := x_o.fr 0; replace f_o1 := x_o.fr 1; replace q_o2 := x_o.c2; replace f_o2 := x_o.fr 2; replace q_x0 := x_x.c0; replace q_x1 := x_x.c1; replace f_x0 := x_x.fr 0; replace f_x1 := x_x.fr 1; replace q_x2 := x_x.c2; replace f_x2 := x_x.fr 2))
  go_wp2_with fail
  have hcx := z_x.1.cap; have hnx := z_x.2
  clear z6 z_x
  rcases Nat.eq_zero_or_pos n5 with hn5 | hn5
  · subst hn5
    clear o5
    refine wp_loop_rounds 1 ?_
    rw [rounds_succ]
    go_wp2_with fail
    go_region_held3 (fun w' => w'.cell? ⟨w.heap.size + 1, 0, none⟩ = some (.bool b2) ∧ w'.cell? ⟨w.heap.size + 1, 1, none⟩ = some (.slice Ab_ nb_ cb_) ∧ w'.cell? ⟨w.heap.size + 1, 2, none⟩ = some (.int .i64 f) ∧ w'.cell? ⟨w.heap.size, 0, none⟩ = some (.bool b) ∧ w'.cell? ⟨w.heap.size, 1, none⟩ = some (.slice Aa_ na_ ca_) ∧ w'.cell? ⟨w.heap.size, 2, none⟩ = some (.int .i64 e))
      (first | (with_reducible exact ⟨x_b.c0, x_b.c1, x_b.c2, x_a.c0, x_a.c1, x_a.c2⟩) | (with_reducible exact ⟨(x_b.aside (by omega)).c0, (x_b.aside (by omega)).c1, (x_b.aside (by omega)).c2, (x_a.aside (by omega)).c0, (x_a.aside (by omega)).c1, (x_a.aside (by omega)).c2⟩) | (with_reducible exact ⟨((x_b.aside (by omega)).aside (by omega)).c0, ((x_b.aside (by omega)).aside (by omega)).c1, ((x_b.aside (by omega)).aside (by omega)).c2, ((x_a.aside (by omega)).aside (by omega)).c0, ((x_a.aside (by omega)).aside (by omega)).c1, ((x_a.aside (by omega)).aside (by omega)).c2⟩) | (with_reducible exact ⟨(x_b.asideD (by omega)).c0, (x_b.asideD (by omega)).c1, (x_b.asideD (by omega)).c2, (x_a.asideD (by omega)).c0, (x_a.asideD (by omega)).c1, (x_a.asideD (by omega)).c2⟩) | (with_reducible exact ⟨((x_b.asideD (by omega)).asideD (by omega)).c0, ((x_b.asideD (by omega)).asideD (by omega)).c1, ((x_b.asideD (by omega)).asideD (by omega)).c2, ((x_a.asideD (by omega)).asideD (by omega)).c0, ((x_a.asideD (by omega)).asideD (by omega)).c1, ((x_a.asideD (by omega)).asideD (by omega)).c2⟩) | go_keep)
      (first | (go_at_call 14; (with_reducible refine (DOf_any zb.drw hT.drw 13 (by omega) (by omega)).mono ?_); rintro e v13 ⟨A1, n1, c1, rfl, z1, hb1⟩; replace hb1 := undrew hb1; replace x_a := x_a.keep hb1; replace x_b := x_b.keep hb1; replace x_o := x_o.keep hb1; replace x_x := x_x.keep hb1; replace hT := hT.keep hb1; replace pa := pa.go hb1; replace pb := pb.go hb1; replace za := za.keep hb1; replace zb := zb.keep hb1; replace po := po.go hb1; replace hb := bthen hb hb1; clear hb1; replace q_a0 := x_a.c0; replace q_a1 := x_a.c1; replace f_a0 := x_a.fr 0; replace f_a1 := x_a.fr 1; replace q_a2 := x_a.c2; replace f_a2 := x_a.fr 2; replace q_b0 := x_b.c0; replace q_b1 := x_b.c1; replace f_b0 := x_b.fr 0; replace f_b1 := x_b.fr 1; replace q_b2 := x_b.c2; replace f_b2 := x_b.fr 2; replace q_o0 := x_o.c0; replace q_o1 := x_o.c1; replace f_o0 := x_o.fr 0; replace f_o1 := x_o.fr 1; replace q_o2 := x_o.c2; replace f_o2 := x_o.fr 2; replace q_x0 := x_x.c0; replace q_x1 := x_x.c1; replace f_x0 := x_x.fr 0; replace f_x1 := x_x.fr 1; replace q_x2 := x_x.c2; replace f_x2 := x_x.fr 2) | (go_at_call 15; (with_reducible refine (DROf_any zb (by omega)).mono ?_); rintro e v14 ⟨A2_, n2_, c2_, rfl, z2, hb1⟩; replace x_a := x_a.keep hb1; replace x_b := x_b.keep hb1; replace x_o := x_o.keep hb1; replace x_x := x_x.keep hb1; replace hT := hT.keep hb1; replace pa := pa.go hb1; replace pb := pb.go hb1; replace za := za.keep hb1; replace zb := zb.keep hb1; replace po := po.go hb1; replace z1 := z1.keep hb1; replace hb := bthen hb hb1; clear hb1; replace q_a0 := x_a.c0; replace q_a1 := x_a.c1; replace f_a0 := x_a.fr 0; replace f_a1 := x_a.fr 1; replace q_a2 := x_a.c2; replace f_a2 := x_a.fr 2; replace q_b0 := x_b.c0; replace q_b1 := x_b.c1; replace f_b0 := x_b.fr 0; replace f_b1 := x_b.fr 1; replace q_b2 := x_b.c2; replace f_b2 := x_b.fr 2; replace q_o0 := x_o.c0; replace q_o1 := x_o.c1; replace f_o0 := x_o.fr 0; replace f_o1 := x_o.fr 1; replace q_o2 := x_o.c2; replace f_o2 := x_o.fr 2; replace q_x0 := x_x.c0; replace q_x1 := x_x.c1; replace f_x0 := x_x.fr 0; replace f_x1 := x_x.fr 1; replace q_x2 := x_x.c2; replace f_x2 := x_x.fr 2) | (go_at_call 12; (with_reducible refine (Dequal_any z1 z2 rfl rfl).mono ?_); rintro e v15 ⟨rfl, hb1⟩; replace x_a := x_a.keep hb1; replace x_b := x_b.keep hb1; replace x_o := x_o.keep hb1; replace x_x := x_x.keep hb1; replace hT := hT.keep hb1; replace pa := pa.go hb1; replace pb := pb.go hb1; replace za := za.keep hb1; replace zb := zb.keep hb1; replace po := po.go hb1; replace z1 := z1.keep hb1; replace z2 := z2.keep hb1; replace hb := bthen hb hb1; clear hb1; replace q_a0 := x_a.c0; replace q_a1 := x_a.c1; replace f_a0 := x_a.fr 0; replace f_a1 := x_a.fr 1; replace q_a2 := x_a.c2; replace f_a2 := x_a.fr 2; replace q_b0 := x_b.c0; replace q_b1 := x_b.c1; replace f_b0 := x_b.fr 0; replace f_b1 := x_b.fr 1; replace q_b2 := x_b.c2; replace f_b2 := x_b.fr 2; replace q_o0 := x_o.c0; replace q_o1 := x_o.c1; replace f_o0 := x_o.fr 0; replace f_o1 := x_o.fr 1; replace q_o2 := x_o.c2; replace f_o2 := x_o.fr 2; replace q_x0 := x_x.c0; replace q_x1 := x_x.c1; replace f_x0 := x_x.fr 0; replace f_x1 := x_x.fr 1; replace q_x2 := x_x.c2; replace f_x2 := x_x.fr 2))
    go_wp2_with fail
    clear z1 z2
    skip
    with_reducible refine (DLog_any za (by omega)).mono ?_
    rintro e v16 ⟨rfl, hb1⟩
    replace x_a := x_a.keep hb1
    replace x_b := x_b.keep hb1
    replace x_o := x_o.keep hb1
    replace x_x := x_x.keep hb1
    replace hT := hT.keep hb1
    replace pa := pa.go hb1
    replace pb := pb.go hb1
    replace za := za.keep hb1
    replace zb := zb.keep hb1
    replace po := po.go hb1
    replace hb := bthen hb hb1
    clear hb1
    replace q_a0 := x_a.c0; replace q_a1 := x_a.c1; replace f_a0 := x_a.fr 0; replace f_a1 := x_a.fr 1; replace q_a2 := x_a.c2; replace f_a2 := x_a.fr 2
    replace q_b0 := x_b.c0; replace q_b1 := x_b.c1; replace f_b0 := x_b.fr 0; replace f_b1 := x_b.fr 1; replace q_b2 := x_b.c2; replace f_b2 := x_b.fr 2
    replace q_o0 := x_o.c0; replace q_o1 := x_o.c1; replace f_o0 := x_o.fr 0; replace f_o1 := x_o.fr 1; replace q_o2 := x_o.c2; replace f_o2 := x_o.fr 2
    replace q_x0 := x_x.c0; replace q_x1 := x_x.c1; replace f_x0 := x_x.fr 0; replace f_x1 := x_x.fr 1; replace q_x2 := x_x.c2; replace f_x2 := x_x.fr 2
    generalize hSI : lgI (cM X e) (cE e) = SI
    generalize hSB : lgB (cM X e) = SB
    have HSI := Lib.hid hSI; have HSB := Lib.hid hSB; clear hSI hSB
    go_wp2_with fail
    with_reducible refine (DRLog_any za (by omega)).mono ?_
    rintro e v17 ⟨rfl, hb1⟩
    replace x_a := x_a.keep hb1
    replace x_b := x_b.keep hb1
    replace x_o := x_o.keep hb1
    replace x_x := x_x.keep hb1
    replace hT := hT.keep hb1
    replace pa := pa.go hb1
    replace pb := pb.go hb1
    replace za := za.keep hb1
    replace zb := zb.keep hb1
    replace po := po.go hb1
    replace hb := bthen hb hb1
    clear hb1
    replace q_a0 := x_a.c0; replace q_a1 := x_a.c1; replace f_a0 := x_a.fr 0; replace f_a1 := x_a.fr 1; replace q_a2 := x_a.c2; replace f_a2 := x_a.fr 2
    replace q_b0 := x_b.c0; replace q_b1 := x_b.c1; replace f_b0 := x_b.fr 0; replace f_b1 := x_b.fr 1; replace q_b2 := x_b.c2; replace f_b2 := x_b.fr 2
    replace q_o0 := x_o.c0; replace q_o1 := x_o.c1; replace f_o0 := x_o.fr 0; replace f_o1 := x_o.fr 1; replace q_o2 := x_o.c2; replace f_o2 := x_o.fr 2
    replace q_x0 := x_x.c0; replace q_x1 := x_x.c1; replace f_x0 := x_x.fr 0; replace f_x1 := x_x.fr 1; replace q_x2 := x_x.c2; replace f_x2 := x_x.fr 2
    rw [HSI.out, HSB.out]
    go_wp2_with fail
    with_reducible refine (Dequal_raw po pa).mono ?_
    rintro e v18 ⟨rfl, hb1⟩
    replace x_a := x_a.keep hb1
    replace x_b := x_b.keep hb1
    replace x_o := x_o.keep hb1
    replace x_x := x_x.keep hb1
    replace hT := hT.keep hb1
    replace pa := pa.go hb1
    replace pb := pb.go hb1
    replace za := za.keep hb1
    replace zb := zb.keep hb1
    replace po := po.go hb1
    replace hb := bthen hb hb1
    clear hb1
    replace q_a0 := x_a.c0; replace q_a1 := x_a.c1; replace f_a0 := x_a.fr 0; replace f_a1 := x_a.fr 1; replace q_a2 := x_a.c2; replace f_a2 := x_a.fr 2
    replace q_b0 := x_b.c0; replace q_b1 := x_b.c1; replace f_b0 := x_b.fr 0; replace f_b1 := x_b.fr 1; replace q_b2 := x_b.c2; replace f_b2 := x_b.fr 2
    replace q_o0 := x_o.c0; replace q_o1 := x_o.c1; replace f_o0 := x_o.fr 0; replace f_o1 := x_o.fr 1; replace q_o2 := x_o.c2; replace f_o2 := x_o.fr 2
    replace q_x0 := x_x.c0; replace q_x1 := x_x.c1; replace f_x0 := x_x.fr 0; replace f_x1 := x_x.fr 1; replace q_x2 := x_x.c2; replace f_x2 := x_x.fr 2
    clear po pa pb
    obtain ⟨s1, hs1⟩ : ∃ s1, sgnI (cM X e) = s1 := ⟨_, rfl⟩
    obtain ⟨s2, hs2⟩ : ∃ s2, sgnI (alP X e f - alQ Y e f) = s2 := ⟨_, rfl⟩
    have H1 := Lib.hid hs1; have H2 := Lib.hid hs2; clear hs1 hs2
    go_wp2_with fail
    go_region_held3 (fun w' => w'.cell? ⟨w.heap.size, 0, none⟩ = some (.bool b) ∧ w'.cell? ⟨w.heap.size, 1, none⟩ = some (.slice Aa_ na_ ca_) ∧ w'.cell? ⟨w.heap.size, 2, none⟩ = some (.int .i64 e) ∧ w'.cell? ⟨w.heap.size + 1, 0, none⟩ = some (.bool b2) ∧ w'.cell? ⟨w.heap.size + 1, 1, none⟩ = some (.slice Ab_ nb_ cb_) ∧ w'.cell? ⟨w.heap.size + 1, 2, none⟩ = some (.int .i64 f))
      (first | (with_reducible exact ⟨x_a.c0, x_a.c1, x_a.c2, x_b.c0, x_b.c1, x_b.c2⟩) | (with_reducible exact ⟨(x_a.aside (by omega)).c0, (x_a.aside (by omega)).c1, (x_a.aside (by omega)).c2, (x_b.aside (by omega)).c0, (x_b.aside (by omega)).c1, (x_b.aside (by omega)).c2⟩) | (with_reducible exact ⟨((x_a.aside (by omega)).aside (by omega)).c0, ((x_a.aside (by omega)).aside (by omega)).c1, ((x_a.aside (by omega)).aside (by omega)).c2, ((x_b.aside (by omega)).aside (by omega)).c0, ((x_b.aside (by omega)).aside (by omega)).c1, ((x_b.aside (by omega)).aside (by omega)).c2⟩) | (with_reducible exact ⟨(x_a.asideD (by omega)).c0, (x_a.asideD (by omega)).c1, (x_a.asideD (by omega)).c2, (x_b.asideD (by omega)).c0, (x_b.asideD (by omega)).c1, (x_b.asideD (by omega)).c2⟩) | (with_reducible exact ⟨((x_a.asideD (by omega)).asideD (by omega)).c0, ((x_a.asideD (by omega)).asideD (by omega)).c1, ((x_a.asideD (by omega)).asideD (by omega)).c2, ((x_b.asideD (by omega)).asideD (by omega)).c0, ((x_b.asideD (by omega)).asideD (by omega)).c1, ((x_b.asideD (by omega)).asideD (by omega)).c2⟩) | go_keep)
      (first | (go_at_call 18; (with_reducible refine (DSign_any za.drw (by omega)).mono ?_); rintro e v19 ⟨rfl, hb1⟩; replace hb1 := undrew hb1; replace x_a := x_a.keep hb1; replace x_b := x_b.keep hb1; replace x_o := x_o.keep hb1; replace x_x := x_x.keep hb1; replace hT := hT.keep hb1; replace za := za.keep hb1; replace zb := zb.keep hb1; replace hb := bthen hb hb1; clear hb1; replace q_a0 := x_a.c0; replace q_a1 := x_a.c1; replace f_a0 := x_a.fr 0; replace f_a1 := x_a.fr 1; replace q_a2 := x_a.c2; replace f_a2 := x_a.fr 2; replace q_b0 := x_b.c0; replace q_b1 := x_b.c1; replace f_b0 := x_b.fr 0; replace f_b1 := x_b.fr 1; replace q_b2 := x_b.c2; replace f_b2 := x_b.fr 2; replace q_o0 := x_o.c0; replace q_o1 := x_o.c1; replace f_o0 := x_o.fr 0; replace f_o1 := x_o.fr 1; replace q_o2 := x_o.c2; replace f_o2 := x_o.fr 2; replace q_x0 := x_x.c0; replace q_x1 := x_x.c1; replace f_x0 := x_x.fr 0; replace f_x1 := x_x.fr 1; replace q_x2 := x_x.c2; replace f_x2 := x_x.fr 2; rw [H1.out]) | (go_at_call 19; (with_reducible refine (DRSign_any za (by omega)).mono ?_); rintro e v20 ⟨rfl, hb1⟩; replace x_a := x_a.keep hb1; replace x_b := x_b.keep hb1; replace x_o := x_o.keep hb1; replace x_x := x_x.keep hb1; replace hT := hT.keep hb1; replace za := za.keep hb1; replace zb := zb.keep hb1; replace hb := bthen hb hb1; clear hb1; replace q_a0 := x_a.c0; replace q_a1 := x_a.c1; replace f_a0 := x_a.fr 0; replace f_a1 := x_a.fr 1; replace q_a2 := x_a.c2; replace f_a2 := x_a.fr 2; replace q_b0 := x_b.c0; replace q_b1 := x_b.c1; replace f_b0 := x_b.fr 0; replace f_b1 := x_b.fr 1; replace q_b2 := x_b.c2; replace f_b2 := x_b.fr 2; replace q_o0 := x_o.c0; replace q_o1 := x_o.c1; replace f_o0 := x_o.fr 0; replace f_o1 := x_o.fr 1; replace q_o2 := x_o.c2; replace f_o2 := x_o.fr 2; replace q_x0 := x_x.c0; replace q_x1 := x_x.c1; replace f_x0 := x_x.fr 0; replace f_x1 := x_x.fr 1; replace q_x2 := x_x.c2; replace f_x2 := x_x.fr 2; rw [H1.out]) | (go_at_call 20; (with_reducible refine (DCmp_any za zb (by omega) (by omega)).mono ?_); rintro e v21 ⟨rfl, hb1⟩; replace x_a := x_a.keep hb1; replace x_b := x_b.keep hb1; replace x_o := x_o.keep hb1; replace x_x := x_x.keep hb1; replace hT := hT.keep hb1; replace za := za.keep hb1; replace zb := zb.keep hb1; replace hb := bthen hb hb1; clear hb1; replace q_a0 := x_a.c0; replace q_a1 := x_a.c1; replace f_a0 := x_a.fr 0; replace f_a1 := x_a.fr 1; replace q_a2 := x_a.c2; replace f_a2 := x_a.fr 2; replace q_b0 := x_b.c0; replace q_b1 := x_b.c1; replace f_b0 := x_b.fr 0; replace f_b1 := x_b.fr 1; replace q_b2 := x_b.c2; replace f_b2 := x_b.fr 2; replace q_o0 := x_o.c0; replace q_o1 := x_o.c1; replace f_o0 := x_o.fr 0; replace f_o1 := x_o.fr 1; replace q_o2 := x_o.c2; replace f_o2 := x_o.fr 2; replace q_x0 := x_x.c0; replace q_x1 := x_x.c1; replace f_x0 := x_x.fr 0; replace f_x1 := x_x.fr 1; replace q_x2 := x_x.c2; replace f_x2 := x_x.fr 2; rw [H2.out]) | (go_at_call 21; (with_reducible refine (DRCmp_any za zb (by omega) (by omega)).mono ?_); rintro e v22 ⟨rfl, hb1⟩; replace x_a := x_a.keep hb1; replace x_b := x_b.keep hb1; replace x_o := x_o.keep hb1; replace x_x := x_x.keep hb1; replace hT := hT.keep hb1; replace za := za.keep hb1; replace zb := zb.keep hb1; replace hb := bthen hb hb1; clear hb1; replace q_a0 := x_a.c0; replace q_a1 := x_a.c1; replace f_a0 := x_a.fr 0; replace f_a1 := x_a.fr 1; replace q_a2 := x_a.c2; replace f_a2 := x_a.fr 2; replace q_b0 := x_b.c0; replace q_b1 := x_b.c1; replace f_b0 := x_b.fr 0; replace f_b1 := x_b.fr 1; replace q_b2 := x_b.c2; replace f_b2 := x_b.fr 2; replace q_o0 := x_o.c0; replace q_o1 := x_o.c1; replace f_o0 := x_o.fr 0; replace f_o1 := x_o.fr 1; replace q_o2 := x_o.c2; replace f_o2 := x_o.fr 2; replace q_x0 := x_x.c0; replace q_x1 := x_x.c1; replace f_x0 := x_x.fr 0; replace f_x1 := x_x.fr 1; replace q_x2 := x_x.c2; replace f_x2 := x_x.fr 2; rw [H2.out]))
    go_wp2
    go_ret
    exact ⟨by simp, hb⟩
  · obtain ⟨g, lg, rfl, hg0, hbk, hlg⟩ := o5 hn5
    clear o5
    have fa := far_of paB hg0; have fb := far_of pbB hg0; have fo := far_of poB hg0
    clear paB pbB poB
    have hltg := hbk.lt
    have nex := hbk.neD x_x
    obtain ⟨LL, hLL⟩ : ∃ LL, lg.length = LL := ⟨_, rfl⟩
    go_loopw [9] (fun iv wr => ∃ k : Nat, k ≤ n5 ∧ iv = .int .i64 k ∧ OvRel v12 g LL wr) (fun iv _ => n5 - (intOf iv).toNat)
    case atStart => exact ⟨0, Nat.zero_le _, rfl, _, hLL, hbk, ⟨rfl, rfl, rfl, Nat.le_refl _, fun _ _ _ => rfl⟩⟩
    case round =>
      obtain ⟨k, hk, rfl, XX, x1, x2, hgr⟩ := hrel
      have t_a := x_a.by_ hgr (by omega); have t_b := x_b.by_ hgr (by omega); have t_x := x_x.by_ hgr (Ne.symm nex); have t_o := x_o.by_ hgr (by omega)
      clear hbk
      by_cases hkL : k < n5
      · have hkX : k < XX.length := by omega
        have hc1 := x2.cell k hkX
        have hf1 := x2.frozen k
        have qx0 := t_x.c0; have qx1 := t_x.c1; have qx2 := t_x.c2
        have R9 : OvRel v12 g LL (wr.setCell ⟨g, k, none⟩ (.int .u64 7)) := ⟨_, by simpa using x1, x2.set k 7, grownBy_trans hgr (grownBy_set wr g k _)⟩
        generalize XX[k] = zz at hc1
        clear x1 x2 hgr
        go_wp2
        go_roundw
        case rel => exact ⟨k + 1, by omega, by go_num, R9⟩
        case measure => simp [intOf]; omega
      · obtain rfl : n5 = k := by omega
        have hb := grow_below hb hb.size hgr (by omega)
        have po := po.turned fo hgr; have pa := pa.turned fa hgr; have pb := pb.turned fb hgr; have hT := hT.turned hgr (by omega)
        have za : Zr wr b Aa_ na_ ca_ X 12 := ⟨la, pa, HXE.out, ka⟩
        have zb : Zr wr b2 Ab_ nb_ cb_ Y 12 := ⟨lb, pb, HYE.out, kb⟩
        clear x_a x_b x_x x_o q_a0 q_a1 f_a0 f_a1 q_a2 f_a2 q_b0 q_b1 f_b0 f_b1 q_b2 f_b2 q_o0 q_o1 f_o0 f_o1 q_o2 f_o2 q_x0 q_x1 f_x0 f_x1 q_x2 f_x2
        have x_a := t_a; have x_b := t_b; have x_o := t_o; have x_x := t_x
        clear t_a t_b t_o t_x
        have q_a0 := x_a.c0; have q_a1 := x_a.c1; have f_a0 := x_a.fr 0; have f_a1 := x_a.fr 1; have q_a2 := x_a.c2; have f_a2 := x_a.fr 2
        have q_b0 := x_b.c0; have q_b1 := x_b.c1; have f_b0 := x_b.fr 0; have f_b1 := x_b.fr 1; have q_b2 := x_b.c2; have f_b2 := x_b.fr 2
        have q_o0 := x_o.c0; have q_o1 := x_o.c1; have f_o0 := x_o.fr 0; have f_o1 := x_o.fr 1; have q_o2 := x_o.c2; have f_o2 := x_o.fr 2
        have q_x0 := x_x.c0; have q_x1 := x_x.c1; have f_x0 := x_x.fr 0; have f_x1 := x_x.fr 1; have q_x2 := x_x.c2; have f_x2 := x_x.fr 2
        go_wp2_with fail
        go_region_held3 (fun w' => w'.cell? ⟨w.heap.size + 1, 0, none⟩ = some (.bool b2) ∧ w'.cell? ⟨w.heap.size + 1, 1, none⟩ = some (.slice Ab_ nb_ cb_) ∧ w'.cell? ⟨w.heap.size + 1, 2, none⟩ = some (.int .i64 f) ∧ w'.cell? ⟨w.heap.size, 0, none⟩ = some (.bool b) ∧ w'.cell? ⟨w.heap.size, 1, none⟩ = some (.slice Aa_ na_ ca_) ∧ w'.cell? ⟨w.heap.size, 2, none⟩ = some (.int .i64 e))
          (first | (with_reducible exact ⟨x_b.c0, x_b.c1, x_b.c2, x_a.c0, x_a.c1, x_a.c2⟩) | (with_reducible exact ⟨(x_b.aside (by omega)).c0, (x_b.aside (by omega)).c1, (x_b.aside (by omega)).c2, (x_a.aside (by omega)).c0, (x_a.aside (by omega)).c1, (x_a.aside (by omega)).c2⟩) | (with_reducible exact ⟨((x_b.aside (by omega)).aside (by omega)).c0, ((x_b.aside (by omega)).aside (by omega)).c1, ((x_b.aside (by omega)).aside (by omega)).c2, ((x_a.aside (by omega)).aside (by omega)).c0, ((x_a.aside (by omega)).aside (by omega)).c1, ((x_a.aside (by omega)).aside (by omega)).c2⟩) | (with_reducible exact ⟨(x_b.asideD (by omega)).c0, (x_b.asideD (by omega)).c1, (x_b.asideD (by omega)).c2, (x_a.asideD (by omega)).c0, (x_a.asideD (by omega)).c1, (x_a.asideD (by omega)).c2⟩) | (with_reducible exact ⟨((x_b.asideD (by omega)).asideD (by omega)).c0, ((x_b.asideD (by omega)).asideD (by omega)).c1, ((x_b.asideD (by omega)).asideD (by omega)).c2, ((x_a.asideD (by omega)).asideD (by omega)).c0, ((x_a.asideD (by omega)).asideD (by omega)).c1, ((x_a.asideD (by omega)).asideD (by omega)).c2⟩) | go_keep)
          (first | (go_at_call 14; (with_reducible refine (DOf_any zb.drw hT.drw 13 (by omega) (by omega)).mono ?_); rintro e v13 ⟨A1, n1, c1, rfl, z1, hb1⟩; replace hb1 := undrew hb1; replace x_a := x_a.keep hb1; replace x_b := x_b.keep hb1; replace x_o := x_o.keep hb1; replace x_x := x_x.keep hb1; replace po := po.go hb1; replace pa := pa.go hb1; replace pb := pb.go hb1; replace za := za.keep hb1; replace zb := zb.keep hb1; replace hT := hT.keep hb1; replace hb := bthen hb hb1; clear hb1; replace q_a0 := x_a.c0; replace q_a1 := x_a.c1; replace f_a0 := x_a.fr 0; replace f_a1 := x_a.fr 1; replace q_a2 := x_a.c2; replace f_a2 := x_a.fr 2; replace q_b0 := x_b.c0; replace q_b1 := x_b.c1; replace f_b0 := x_b.fr 0; replace f_b1 := x_b.fr 1; replace q_b2 := x_b.c2; replace f_b2 := x_b.fr 2; replace q_o0 := x_o.c0; replace q_o1 := x_o.c1; replace f_o0 := x_o.fr 0; replace f_o1 := x_o.fr 1; replace q_o2 := x_o.c2; replace f_o2 := x_o.fr 2; replace q_x0 := x_x.c0; replace q_x1 := x_x.c1; replace f_x0 := x_x.fr 0; replace f_x1 := x_x.fr 1; replace q_x2 := x_x.c2; replace f_x2 := x_x.fr 2) | (go_at_call 15; (with_reducible refine (DROf_any zb (by omega)).mono ?_); rintro e v14 ⟨A2_, n2_, c2_, rfl, z2, hb1⟩; replace x_a := x_a.keep hb1; replace x_b := x_b.keep hb1; replace x_o := x_o.keep hb1; replace x_x := x_x.keep hb1; replace po := po.go hb1; replace pa := pa.go hb1; replace pb := pb.go hb1; replace za := za.keep hb1; replace zb := zb.keep hb1; replace hT := hT.keep hb1; replace z1 := z1.keep hb1; replace hb := bthen hb hb1; clear hb1; replace q_a0 := x_a.c0; replace q_a1 := x_a.c1; replace f_a0 := x_a.fr 0; replace f_a1 := x_a.fr 1; replace q_a2 := x_a.c2; replace f_a2 := x_a.fr 2; replace q_b0 := x_b.c0; replace q_b1 := x_b.c1; replace f_b0 := x_b.fr 0; replace f_b1 := x_b.fr 1; replace q_b2 := x_b.c2; replace f_b2 := x_b.fr 2; replace q_o0 := x_o.c0; replace q_o1 := x_o.c1; replace f_o0 := x_o.fr 0; replace f_o1 := x_o.fr 1; replace q_o2 := x_o.c2; replace f_o2 := x_o.fr 2; replace q_x0 := x_x.c0; replace q_x1 := x_x.c1; replace f_x0 := x_x.fr 0; replace f_x1 := x_x.fr 1; replace q_x2 := x_x.c2; replace f_x2 := x_x.fr 2) | (go_at_call 12; (with_reducible refine (Dequal_any z1 z2 rfl rfl).mono ?_); rintro e v15 ⟨rfl, hb1⟩; replace x_a := x_a.keep hb1; replace x_b := x_b.keep hb1; replace x_o := x_o.keep hb1; replace x_x := x_x.keep hb1; replace po := po.go hb1; replace pa := pa.go hb1; replace pb := pb.go hb1; replace za := za.keep hb1; replace zb := zb.keep hb1; replace hT := hT.keep hb1; replace z1 := z1.keep hb1; replace z2 := z2.keep hb1; replace hb := bthen hb hb1; clear hb1; replace q_a0 := x_a.c0; replace q_a1 := x_a.c1; replace f_a0 := x_a.fr 0; replace f_a1 := x_a.fr 1; replace q_a2 := x_a.c2; replace f_a2 := x_a.fr 2; replace q_b0 := x_b.c0; replace q_b1 := x_b.c1; replace f_b0 := x_b.fr 0; replace f_b1 := x_b.fr 1; replace q_b2 := x_b.c2; replace f_b2 := x_b.fr 2; replace q_o0 := x_o.c0; replace q_o1 := x_o.c1; replace f_o0 := x_o.fr 0; replace f_o1 := x_o.fr 1; replace q_o2 := x_o.c2; replace f_o2 := x_o.fr 2; replace q_x0 := x_x.c0; replace q_x1 := x_x.c1; replace f_x0 := x_x.fr 0; replace f_x1 := x_x.fr 1; replace q_x2 := x_x.c2; replace f_x2 := x_x.fr 2))
        go_wp2_with fail
        clear z1 z2
        skip
        with_reducible refine (DLog_any za (by omega)).mono ?_
        rintro e v16 ⟨rfl, hb1⟩
        replace x_a := x_a.keep hb1
        replace x_b := x_b.keep hb1
        replace x_o := x_o.keep hb1
        replace x_x := x_x.keep hb1
        replace po := po.go hb1
        replace pa := pa.go hb1
        replace pb := pb.go hb1
        replace za := za.keep hb1
        replace zb := zb.keep hb1
        replace hT := hT.keep hb1
        replace hb := bthen hb hb1
        clear hb1
        replace q_a0 := x_a.c0; replace q_a1 := x_a.c1; replace f_a0 := x_a.fr 0; replace f_a1 := x_a.fr 1; replace q_a2 := x_a.c2; replace f_a2 := x_a.fr 2
        replace q_b0 := x_b.c0; replace q_b1 := x_b.c1; replace f_b0 := x_b.fr 0; replace f_b1 := x_b.fr 1; replace q_b2 := x_b.c2; replace f_b2 := x_b.fr 2
        replace q_o0 := x_o.c0; replace q_o1 := x_o.c1; replace f_o0 := x_o.fr 0; replace f_o1 := x_o.fr 1; replace q_o2 := x_o.c2; replace f_o2 := x_o.fr 2
        replace q_x0 := x_x.c0; replace q_x1 := x_x.c1; replace f_x0 := x_x.fr 0; replace f_x1 := x_x.fr 1; replace q_x2 := x_x.c2; replace f_x2 := x_x.fr 2
        generalize hSI : lgI (cM X e) (cE e) = SI
        generalize hSB : lgB (cM X e) = SB
        have HSI := Lib.hid hSI; have HSB := Lib.hid hSB; clear hSI hSB
        go_wp2_with fail
        with_reducible refine (DRLog_any za (by omega)).mono ?_
        rintro e v17 ⟨rfl, hb1⟩
        replace x_a := x_a.keep hb1
        replace x_b := x_b.keep hb1
        replace x_o := x_o.keep hb1
        replace x_x := x_x.keep hb1
        replace po := po.go hb1
        replace pa := pa.go hb1
        replace pb := pb.go hb1
        replace za := za.keep hb1
        replace zb := zb.keep hb1
        replace hT := hT.keep hb1
        replace hb := bthen hb hb1
        clear hb1
        replace q_a0 := x_a.c0; replace q_a1 := x_a.c1; replace f_a0 := x_a.fr 0; replace f_a1 := x_a.fr 1; replace q_a2 := x_a.c2; replace f_a2 := x_a.fr 2
        replace q_b0 := x_b.c0; replace q_b1 := x_b.c1; replace f_b0 := x_b.fr 0; replace f_b1 := x_b.fr 1; replace q_b2 := x_b.c2; replace f_b2 := x_b.fr 2
        replace q_o0 := x_o.c0; replace q_o1 := x_o.c1; replace f_o0 := x_o.fr 0; replace f_o1 := x_o.fr 1; replace q_o2 := x_o.c2; replace f_o2 := x_o.fr 2
        replace q_x0 := x_x.c0; replace q_x1 := x_x.c1; replace f_x0 := x_x.fr 0; replace f_x1 := x_x.fr 1; replace q_x2 := x_x.c2; replace f_x2 := x_x.fr 2
        rw [HSI.out, HSB.out]
        go_wp2_with fail
        with_reducible refine (Dequal_raw po pa).mono ?_
        rintro e v18 ⟨rfl, hb1⟩
        replace x_a := x_a.keep hb1
        replace x_b := x_b.keep hb1
        replace x_o := x_o.keep hb1
        replace x_x := x_x.keep hb1
        replace po := po.go hb1
        replace pa := pa.go hb1
        replace pb := pb.go hb1
        replace za := za.keep hb1
        replace zb := zb.keep hb1
        replace hT := hT.keep hb1
        replace hb := bthen hb hb1
        clear hb1
        replace q_a0 := x_a.c0; replace q_a1 := x_a.c1; replace f_a0 := x_a.fr 0; replace f_a1 := x_a.fr 1; replace q_a2 := x_a.c2; replace f_a2 := x_a.fr 2
        replace q_b0 := x_b.c0; replace q_b1 := x_b.c1; replace f_b0 := x_b.fr 0; replace f_b1 := x_b.fr 1; replace q_b2 := x_b.c2; replace f_b2 := x_b.fr 2
        replace q_o0 := x_o.c0; replace q_o1 := x_o.c1; replace f_o0 := x_o.fr 0; replace f_o1 := x_o.fr 1; replace q_o2 := x_o.c2; replace f_o2 := x_o.fr 2
        replace q_x0 := x_x.c0; replace q_x1 := x_x.c1; replace f_x0 := x_x.fr 0; replace f_x1 := x_x.fr 1; replace q_x2 := x_x.c2; replace f_x2 := x_x.fr 2
        clear po pa pb
        obtain ⟨s1, hs1⟩ : ∃ s1, sgnI (cM X e) = s1 := ⟨_, rfl⟩
        obtain ⟨s2, hs2⟩ : ∃ s2, sgnI (alP X e f - alQ Y e f) = s2 := ⟨_, rfl⟩
        have H1 := Lib.hid hs1; have H2 := Lib.hid hs2; clear hs1 hs2
        go_wp2_with fail
        go_region_held3 (fun w' => w'.cell? ⟨w.heap.size, 0, none⟩ = some (.bool b) ∧ w'.cell? ⟨w.heap.size, 1, none⟩ = some (.slice Aa_ na_ ca_) ∧ w'.cell? ⟨w.heap.size, 2, none⟩ = some (.int .i64 e) ∧ w'.cell? ⟨w.heap.size + 1, 0, none⟩ = some (.bool b2) ∧ w'.cell? ⟨w.heap.size + 1, 1, none⟩ = some (.slice Ab_ nb_ cb_) ∧ w'.cell? ⟨w.heap.size + 1, 2, none⟩ = some (.int .i64 f))
          (first | (with_reducible exact ⟨x_a.c0, x_a.c1, x_a.c2, x_b.c0, x_b.c1, x_b.c2⟩) | (with_reducible exact ⟨(x_a.aside (by omega)).c0, (x_a.aside (by omega)).c1, (x_a.aside (by omega)).c2, (x_b.aside (by omega)).c0, (x_b.aside (by omega)).c1, (x_b.aside (by omega)).c2⟩) | (with_reducible exact ⟨((x_a.aside (by omega)).aside (by omega)).c0, ((x_a.aside (by omega)).aside (by omega)).c1, ((x_a.aside (by omega)).aside (by omega)).c2, ((x_b.aside (by omega)).aside (by omega)).c0, ((x_b.aside (by omega)).aside (by omega)).c1, ((x_b.aside (by omega)).aside (by omega)).c2⟩) | (with_reducible exact ⟨(x_a.asideD (by omega)).c0, (x_a.asideD (by omega)).c1, (x_a.asideD (by omega)).c2, (x_b.asideD (by omega)).c0, (x_b.asideD (by omega)).c1, (x_b.asideD (by omega)).c2⟩) | (with_reducible exact ⟨((x_a.asideD (by omega)).asideD (by omega)).c0, ((x_a.asideD (by omega)).asideD (by omega)).c1, ((x_a.asideD (by omega)).asideD (by omega)).c2, ((x_b.asideD (by omega)).asideD (by omega)).c0, ((x_b.asideD (by omega)).asideD (by omega)).c1, ((x_b.asideD (by omega)).asideD (by omega)).c2⟩) | go_keep)
          (first | (go_at_call 18; (with_reducible refine (DSign_any za.drw (by omega)).mono ?_); rintro e v19 ⟨rfl, hb1⟩; replace hb1 := undrew hb1; replace x_a := x_a.keep hb1; replace x_b := x_b.keep hb1; replace x_o := x_o.keep hb1; replace x_x := x_x.keep hb1; replace za := za.keep hb1; replace zb := zb.keep hb1; replace hT := hT.keep hb1; replace hb := bthen hb hb1; clear hb1; replace q_a0 := x_a.c0; replace q_a1 := x_a.c1; replace f_a0 := x_a.fr 0; replace f_a1 := x_a.fr 1; replace q_a2 := x_a.c2; replace f_a2 := x_a.fr 2; replace q_b0 := x_b.c0; replace q_b1 := x_b.c1; replace f_b0 := x_b.fr 0; replace f_b1 := x_b.fr 1; replace q_b2 := x_b.c2; replace f_b2 := x_b.fr 2; replace q_o0 := x_o.c0; replace q_o1 := x_o.c1; replace f_o0 := x_o.fr 0; replace f_o1 := x_o.fr 1; replace q_o2 := x_o.c2; replace f_o2 := x_o.fr 2; replace q_x0 := x_x.c0; replace q_x1 := x_x.c1; replace f_x0 := x_x.fr 0; replace f_x1 := x_x.fr 1; replace q_x2 := x_x.c2; replace f_x2 := x_x.fr 2; rw [H1.out]) | (go_at_call 19; (with_reducible refine (DRSign_any za (by omega)).mono ?_); rintro e v20 ⟨rfl, hb1⟩; replace x_a := x_a.keep hb1; replace x_b := x_b.keep hb1; replace x_o := x_o.keep hb1; replace x_x := x_x.keep hb1; replace za := za.keep hb1; replace zb := zb.keep hb1; replace hT := hT.keep hb1; replace hb := bthen hb hb1; clear hb1; replace q_a0 := x_a.c0; replace q_a1 := x_a.c1; replace f_a0 := x_a.fr 0; replace f_a1 := x_a.fr 1; replace q_a2 := x_a.c2; replace f_a2 := x_a.fr 2; replace q_b0 := x_b.c0; replace q_b1 := x_b.c1; replace f_b0 := x_b.fr 0; replace f_b1 := x_b.fr 1; replace q_b2 := x_b.c2; replace f_b2 := x_b.fr 2; replace q_o0 := x_o.c0; replace q_o1 := x_o.c1; replace f_o0 := x_o.fr 0; replace f_o1 := x_o.fr 1; replace q_o2 := x_o.c2; replace f_o2 := x_o.fr 2; replace q_x0 := x_x.c0; replace q_x1 := x_x.c1; replace f_x0 := x_x.fr 0; replace f_x1 := x_x.fr 1; replace q_x2 := x_x.c2; replace f_x2 := x_x.fr 2; rw [H1.out]) | (go_at_call 20; (with_reducible refine (DCmp_any za zb (by omega) (by omega)).mono ?_); rintro e v21 ⟨rfl, hb1⟩; replace x_a := x_a.keep hb1; replace x_b := x_b.keep hb1; replace x_o := x_o.keep hb1; replace x_x := x_x.keep hb1; replace za := za.keep hb1; replace zb := zb.keep hb1; replace hT := hT.keep hb1; replace hb := bthen hb hb1; clear hb1; replace q_a0 := x_a.c0; replace q_a1 := x_a.c1; replace f_a0 := x_a.fr 0; replace f_a1 := x_a.fr 1; replace q_a2 := x_a.c2; replace f_a2 := x_a.fr 2; replace q_b0 := x_b.c0; replace q_b1 := x_b.c1; replace f_b0 := x_b.fr 0; replace f_b1 := x_b.fr 1; replace q_b2 := x_b.c2; replace f_b2 := x_b.fr 2; replace q_o0 := x_o.c0; replace q_o1 := x_o.c1; replace f_o0 := x_o.fr 0; replace f_o1 := x_o.fr 1; replace q_o2 := x_o.c2; replace f_o2 := x_o.fr 2; replace q_x0 := x_x.c0; replace q_x1 := x_x.c1; replace f_x0 := x_x.fr 0; replace f_x1 := x_x.fr 1; replace q_x2 := x_x.c2; replace f_x2 := x_x.fr 2; rw [H2.out]) | (go_at_call 21; (with_reducible refine (DRCmp_any za zb (by omega) (by omega)).mono ?_); rintro e v22 ⟨rfl, hb1⟩; replace x_a := x_a.keep hb1; replace x_b := x_b.keep hb1; replace x_o := x_o.keep hb1; replace x_x := x_x.keep hb1; replace za := za.keep hb1; replace zb := zb.keep hb1; replace hT := hT.keep hb1; replace hb := bthen hb hb1; clear hb1; replace q_a0 := x_a.c0; replace q_a1 := x_a.c1; replace f_a0 := x_a.fr 0; replace f_a1 := x_a.fr 1; replace q_a2 := x_a.c2; replace f_a2 := x_a.fr 2; replace q_b0 := x_b.c0; replace q_b1 := x_b.c1; replace f_b0 := x_b.fr 0; replace f_b1 := x_b.fr 1; replace q_b2 := x_b.c2; replace f_b2 := x_b.fr 2; replace q_o0 := x_o.c0; replace q_o1 := x_o.c1; replace f_o0 := x_o.fr 0; replace f_o1 := x_o.fr 1; replace q_o2 := x_o.c2; replace f_o2 := x_o.fr 2; replace q_x0 := x_x.c0; replace q_x1 := x_x.c1; replace f_x0 := x_x.fr 0; replace f_x1 := x_x.fr 1; replace q_x2 := x_x.c2; replace f_x2 := x_x.fr 2; rw [H2.out]))
        go_wp2
        go_ret
        exact ⟨by simp, hb⟩
end
end Go.Proofs.YtcoidcbbdibnaaaDoor
namespace Go.Proofs.YtcoidcbbdibnaaaDoor
section
open Go.Joins Go.ChangeShapes Go.WideShapes Go.ChangeAt Go.RowKit
set_option linter.unusedVariables false

set_option maxRecDepth 100000 in
theorem DyadStands_lifted (os : Go.Os) (started : os.Started) (H : Type) (enc : TypeId × Value → H) :
    ReturnsInHanded {} Tryd.checked os 3 .any (fun w args => (Rows.dyadStandsSpec.pre enc Tryd.prog Tryd.f3 [] false w args ∧ laidMetH Tryd.prog laidT w) ∧ sizedMet enc Tryd.prog Tryd.f3 (OpenSpec.ofChange Rows.dyadStandsSpec) false w args)
      (Rows.dyadStandsSpec.post enc Tryd.prog Tryd.f3 false true false false) := by
  refine returnsInHanded_of_change_and (C := Tryd.checked) (X := fun w _ => laidMetH Tryd.prog laidT w) (fun _ _ _ hh h => h.of_heap hh) Tryd.own started (by kernel_rfl) Tryd.func3
    (ChangeSpec.witness_shaped (enc := enc) (C := Tryd.checked) (os := os) (X := fun w _ => laidMetH Tryd.prog laidT w) false (World.doorLaid Tryd.prog 400 os) #[.agg #[.bool false, .slice none 0 0, .int .i64 0], .agg #[.bool false, .slice none 0 0, .int .i64 0]] 8 rfl (World.shaped_of_RefB (by kernel_rfl) (by kernel_rfl)) (by kernel_rfl) (by kernel_rfl) (by kernel_rfl) (door_met os _)) ?_
  intro W base args ds gs before hval0 hW _ hsz0 hL _
  have hsz : (DataW.weightsEach Tryd.prog (Tryd.f3.params.toList ++ Rows.dyadStandsSpec.plain.varTypes Tryd.prog) (ds ++ gs)).all (· ≤ reachBytes) = true := hsz0
  clear hsz0
  have hval : ∀ (j : Nat) t v, Tryd.f3.params[j]? = some t → args[j]? = some v → Value.okWide Tryd.prog W .any base t v := hval0
  have hW' := hW
  obtain ⟨p, q, hA0, hV, rfl, _, _⟩ := hW
  have hA : DataW.TrodAll enc Tryd.prog W 0 (fun _ => true) true Tryd.f3.params.toList args.toList ds p := hA0
  rw [Tryd.params3] at hA hval hsz
  obtain ⟨v0, vs0, d0, ds0, p0, q0, hargs, rfl, rfl, h0, r0⟩ := trodAll_cons hA
  obtain ⟨v1, vs1, d1, ds1, p1, q1, rfl, rfl, rfl, h1, r1⟩ := trodAll_cons r0
  obtain ⟨rfl, rfl, rfl⟩ := trodAll_nil r1
  obtain rfl : args = #[v0, v1] := by cases args; simp_all
  obtain ⟨rfl, rfl⟩ := trodVars_none hV
  clear hA0 hval0 hA
  simp only [List.append_nil] at hW'
  have hlt0 : ∀ x ∈ p0, x.block < W.heap.size := fun x hx => by simpa using hW'.lt x (by simp [hx])
  have hlt1 : ∀ x ∈ p1, x.block < W.heap.size := fun x hx => by simpa using hW'.lt x (by simp [hx])
  have hback0 : ∀ W' : World, Below W.heap.size W W' → DataW.Trod enc Tryd.prog W' 0 (fun b => decide (b < W.heap.size)) true 26 v0 d0 p0 :=
    fun W' hn => Below.trod Tryd.laidOut (by kernel_rfl) (of_decide_eq_true (by kernel_rfl)) h0 hn hlt0
  obtain ⟨b0, A0, n0, c0, l0, e0, rfl, g0, ge0⟩ := open_d (hval 0 26 v0 rfl rfl) h0 hlt0 (fun dd de elems spare hd => sized_dmag hsz (j := 0) (d0 := dd) (d1 := de) rfl (by simp [hd]))
  have hback1 : ∀ W' : World, Below W.heap.size W W' → DataW.Trod enc Tryd.prog W' 0 (fun b => decide (b < W.heap.size)) true 26 v1 d1 p1 :=
    fun W' hn => Below.trod Tryd.laidOut (by kernel_rfl) (of_decide_eq_true (by kernel_rfl)) h1 hn hlt1
  obtain ⟨b1, A1, n1, c1, l1, e1, rfl, g1, ge1⟩ := open_d (hval 1 26 v1 rfl rfl) h1 hlt1 (fun dd de elems spare hd => sized_dmag hsz (j := 1) (d0 := dd) (d1 := de) rfl (by simp [hd]))
  refine (DyadStands_any (tab_of_laid hL) g0 g1).mono fun e W' ⟨he, hb⟩ => ?_
  subst he
  exact ⟨_, rfl, _, _, _, [], _, [], hW', trodAll_mk1 (shut_bool Tryd.underlying4 _), (trodAll_cons_mk (hback0 _ hb) (trodAll_cons_mk (hback1 _ hb) trodAll_mk0)), rfl, hb.frame _, fun h => by cases h⟩

theorem DyadStands_row : Rows.DyadStandsSaid :=
  OpenClaim.holds_of_wide 3 Tryd.f3 rfl rfl rfl rfl rfl rfl rfl ⟨rfl, rfl, rfl, rfl, rfl⟩ rfl rfl rfl rfl rfl (by kernel_rfl) Tryd.func3 (by kernel_rfl)
    (of_decide_eq_true (by kernel_rfl)) (by unfold Func.isWrapper; first | (rw [if_pos (by decide +kernel)]; kernel_rfl) | (rw [if_neg (by decide +kernel)]; exact ⟨rfl, rfl⟩))
    (fun os started H enc _ => DyadStands_lifted os started H enc)
set_option maxRecDepth 100000 in
theorem DyadStands_holds : Rows.DyadStandsCardSaid :=
  Claim7.holds_tied_plain_at .later [] [.data] true (true, "785c6cfebb1c4402e6dac8b8a0f000d6c160c57ee8e09e1552b177c778bf7ab1") false
    DyadStands_row (fun _ h => by cases h) (by kernel_rfl) (fun _ h => by cases h) dyadStands_row_tie rfl ⟨rfl, rfl⟩ (by kernel_rfl) rfl
    (fun f fn hf hfn => by
      obtain rfl : f = 3 := Option.some.inj ((show Tryd.prog.funcNamed "hairline/hairlinelaw03.DyadStands" = some 3 by kernel_rfl).symm.trans hf) |>.symm
      obtain rfl : fn = Tryd.f3 := (Option.some.inj (Tryd.func3.symm.trans hfn)).symm
      exact ⟨by kernel_rfl, fun j t ht => by
        rw [Tryd.params3] at ht
        have hm : t ∈ [26, 26] := by simpa using Array.mem_of_getElem? ht
        have hall : ([26, 26].all fun u => !Tryd.prog.wantsStandIn u) = true := by kernel_rfl
        exact (show Tryd.prog.wantsStandIn t = false by simpa using List.all_eq_true.1 hall t hm)⟩)
    (by kernel_rfl)
end
end Go.Proofs.YtcoidcbbdibnaaaDoor
