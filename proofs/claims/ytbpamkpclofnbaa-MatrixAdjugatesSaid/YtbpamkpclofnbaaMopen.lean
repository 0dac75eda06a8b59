/-
  From an argument's reading to a list of lists of integers.
-/
import Derived.Test.YtbpamkpclofnbaaPb
import Derived.ProofKit
import Derived.SizedLaws
import Derived.OpenShut
import Derived.Test.YtbpamkpclofnbaaPc
import Derived.Lib.SmallJoins
import Derived.Test.YtbpamkpclofnbaaMbuild
import Derived.Deep.SlicePairs
import Derived.Test.YtbpamkpclofnbaaMexc
namespace Go.Proofs.Ytbpamkpclofnbaa
section
set_option maxRecDepth 100000
open Go.ChangeShapes Go.WideShapes Go.ChangeAt Go.RowKit
set_option linter.unusedVariables false

theorem Try.own : ownKnob Try.prog.godebug = none := by kernel_rfl
theorem Try.laidOut : laidOutB Try.prog = true := by kernel_rfl
theorem Try.cells64 : Try.prog.cellsOf 59 = 1 := by kernel_rfl
theorem Try.bytes64 : Try.prog.bytesOf 59 = 8 := by kernel_rfl

theorem wf_lm {n : Int} (h : (Lit.int .u64 n).wf = true) : 0 ≤ n ∧ n < (Wd : Int) := by
  simp only [Lit.wf, Bool.and_eq_true, decide_eq_true_eq] at h
  have h1 : IntKind.u64.min = 0 := rfl
  have h2 : IntKind.u64.max = 18446744073709551615 := rfl
  rw [Wd_eq]; omega
theorem bounds_int {n : Int} (h : (Lit.int .i64 n).wf = true) : -9223372036854775808 ≤ n ∧ n ≤ 9223372036854775807 := by
  simp only [Lit.wf, Bool.and_eq_true, decide_eq_true_eq] at h
  have h1 : IntKind.i64.min = -9223372036854775808 := rfl
  have h2 : IntKind.i64.max = 9223372036854775807 := rfl
  omega

/-- A slice of limbs that came in. -/
theorem open_rd {H : Type} {enc : TypeId × Value → H} {W : World} {base : Nat} {v : Value} {d : DataW H} {ps : List MemPlace} (hok : Value.okWide Try.prog W .any base 30 v)
    (h : DataW.Trod enc Try.prog W 0 (fun _ => true) true 30 v d ps) (hlt : ∀ x ∈ ps, x.block < W.heap.size)
    (hsz : ∀ elems spare, d = .slice elems spare → (elems.length + spare.length) * Try.prog.bytesOf 59 ≤ reachBytes) : ∃ A n c l, v = .slice A n c ∧ Rd W W.heap.size A n c l := by
  obtain ⟨a0, len, cap, rfl⟩ := okWide_slice Try.underlying30 hok
  obtain ⟨fuel, hf⟩ := h
  rcases open_ints Try.underlying30 Try.underlying59 Try.cells64 hf with ⟨hcs, hx⟩ | ⟨a, len', cap', zs, hcs, _, hl, hm, hz, hx, hcell, hwz⟩
  · simp [Value.cells] at hcs
    obtain ⟨rfl, rfl, rfl⟩ := hcs
    exact ⟨_, _, _, [], rfl, Rd.nil⟩
  · simp [Value.cells] at hcs
    obtain ⟨rfl, rfl, rfl⟩ := hcs
    simp only [Prod.mk.injEq] at hx
    obtain ⟨rfl, rfl⟩ := hx
    simp only [if_true] at hz
    have hreach := hsz _ _ rfl
    rw [Try.bytes64] at hreach
    simp only [lits, List.length_map, List.length_take, List.length_drop, reachBytes] at hreach
    have hzl : (zs.take len).length = len := by simp; omega
    refine ⟨_, _, _, zs.take len, rfl, hzl, hl, by omega, fun x hx => wf_lm (hwz x (List.mem_of_mem_take hx)), fun hn => ?_⟩
    obtain ⟨b, off, spot⟩ := a
    have hspot : spot = none := by simpa [Addr.add] using World.cell?_spot (hcell 0 (by omega))
    subst hspot
    have hbW : b < W.heap.size := hlt (.cell b off) (MemPlace.mem_row.2 ⟨0, by omega, by simp⟩)
    refine ⟨b, off, rfl, hbW, fun k hk => ?_⟩
    have hk2 : k < zs.length := by omega
    rw [← add_plain, hcell k hk2, List.getElem_take]
    simp [List.getD, List.getElem?_eq_getElem hk2]
end
end Go.Proofs.Ytbpamkpclofnbaa
namespace Go.Proofs.Ytbpamkpclofnbaa
section
set_option maxRecDepth 100000
open Go.Joins Go.ChangeShapes Go.WideShapes Go.ChangeAt Go.RowKit
set_option linter.unusedVariables false

theorem Try.cellsInt : Try.prog.cellsOf 32 = 2 := by kernel_rfl

theorem sized_mag {H : Type} {ts : List TypeId} {ds : List (DataW H)} (h : (DataW.weightsEach Try.prog ts ds).all (· ≤ reachBytes) = true) {j : Nat} {d0 : DataW H} {elems spare : List (DataW H)} (ht : ts[j]? = some 32) (hd : ds[j]? = some (.agg [d0, .slice elems spare])) :
    (elems.length + spare.length) * Try.prog.bytesOf 59 ≤ reachBytes := by
  have := List.all_eq_true.1 h _ (DataW.weights_mem_each ht hd ((elems.length + spare.length) * Try.prog.bytesOf 59) (by simp [DataW.weights, DataW.weightsEach, Try.underlying32, Try.underlying30]))
  simpa using this

/-- An integer that came in. -/
theorem open_z {H : Type} {enc : TypeId × Value → H} {W : World} {base : Nat} {v : Value} {d : DataW H} {ps : List MemPlace} (hok : Value.okWide Try.prog W .any base 32 v)
    (h : DataW.Trod enc Try.prog W 0 (fun _ => true) true 32 v d ps) (hlt : ∀ x ∈ ps, x.block < W.heap.size)
    (hsz : ∀ d0 elems spare, d = .agg [d0, .slice elems spare] → (elems.length + spare.length) * Try.prog.bytesOf 59 ≤ reachBytes) : ∃ b A n c l, v = .agg #[.bool b, .slice A n c] ∧ Rd W W.heap.size A n c l := by
  obtain ⟨v0, v1, y0, y1, m, rfl, rfl, rfl, t0, t1⟩ := open_agg2 Try.underlying32 (by kernel_rfl) Try.cellsInt hok h
  obtain ⟨b, hb0, _⟩ := DataW.trod_bool Try.underlying4 t0
  injection hb0 with hb0 _
  subst hb0
  rcases open_ints Try.underlying30 Try.underlying59 Try.cells64 t1 with ⟨hcs, hx⟩ | ⟨a, len', cap', zs, hcs, _, hl, hm, hz, hx, hcell, hwz⟩
  · injection hcs with hcs _
    subst hcs
    exact ⟨b, _, _, _, [], rfl, Rd.nil⟩
  · injection hcs with hcs _
    subst hcs
    subst hx
    simp only [if_true] at hz
    have hreach := hsz _ _ _ rfl
    rw [Try.bytes64] at hreach
    simp only [lits, List.length_map, List.length_take, List.length_drop, reachBytes] at hreach
    have hzl : (zs.take len').length = len' := by simp; omega
    refine ⟨b, _, _, _, zs.take len', rfl, hzl, hl, by omega, fun x hx => wf_lm (hwz x (List.mem_of_mem_take hx)), fun hn => ?_⟩
    obtain ⟨b1, off, spot⟩ := a
    have hspot : spot = none := by simpa [Addr.add] using World.cell?_spot (hcell 0 (by omega))
    subst hspot
    have hbW : b1 < W.heap.size := hlt (.cell b1 off) (by rw [List.mem_append]; exact .inr (MemPlace.mem_row.2 ⟨0, by omega, by simp⟩))
    refine ⟨b1, off, rfl, hbW, fun k hk => ?_⟩
    have hk2 : k < zs.length := by omega
    rw [← add_plain, hcell k hk2, List.getElem_take]
    simp [List.getD, List.getElem?_eq_getElem hk2]
end
end Go.Proofs.Ytbpamkpclofnbaa
namespace Go.Proofs.Ytbpamkpclofnbaa
open Go.Joins Go.ChangeShapes Go.WideShapes Go.ChangeAt Go.RowKit
set_option linter.unusedVariables false
set_option maxRecDepth 100000

theorem Try.cellsBool : Try.prog.cellsOf 4 = 1 := by kernel_rfl
theorem Try.cellsLimbs : Try.prog.cellsOf 30 = 1 := by kernel_rfl
theorem Try.cellsZ : Try.prog.cellsOf 32 = 2 := by kernel_rfl
theorem Try.bytesZ : Try.prog.bytesOf 32 = 32 := by kernel_rfl

theorem among {H : Type} {P : Program} {e : TypeId} (d : DataW H) : ∀ l : List (DataW H), d ∈ l → ∀ n, n ∈ d.weights P e → n ∈ DataW.weightsAll P e l := by
  intro l
  induction l with
  | nil => intro h; cases h
  | cons y r ih =>
    intro h n hn
    simp only [DataW.weightsAll, List.mem_append]
    cases h with
    | head => exact .inl hn
    | tail _ h => exact .inr (ih h n hn)

/-- A polynomial that came in. -/
theorem open_poly {H : Type} {enc : TypeId × Value → H} {W : World} {base : Nat} {v : Value} {d : DataW H} {ps : List MemPlace} (hok : Value.okWide Try.prog W .any base 66 v)
    (h : DataW.Trod enc Try.prog W 0 (fun _ => true) true 66 v d ps) (hlt : ∀ x ∈ ps, x.block < W.heap.size)
    (hsz : ∀ n ∈ d.weights Try.prog 66, n ≤ reachBytes) : ∃ A n c l, v = .slice A n c ∧ Pa W A n c l := by
  obtain ⟨a0, len, cap, rfl⟩ := okWide_slice Try.underlying66 hok
  obtain ⟨fuel, hf⟩ := h
  rcases Go.Deep.open_slice_pairs Try.underlying66 Try.underlying32 Try.cellsZ rfl rfl Try.cellsBool Try.cellsLimbs hf with ⟨hcs, hx⟩ | ⟨a, len', cap', m, f, V0, V1, D0, D1, P0, P1, hcs, _, hl, hm, hmm, hx, hcell⟩
  · simp [Value.cells] at hcs
    obtain ⟨rfl, rfl, rfl⟩ := hcs
    exact ⟨_, _, _, [], rfl, rfl, Nat.le_refl _, by omega, fun h => absurd h (by omega)⟩
  · simp [Value.cells] at hcs
    obtain ⟨rfl, rfl, rfl⟩ := hcs
    simp only [Prod.mk.injEq] at hx
    obtain ⟨rfl, rfl⟩ := hx
    simp only [if_true] at hmm
    have hreach := hsz ((len + (m - len)) * 32) (by simp [DataW.weights, Try.underlying66, Try.bytesZ])
    simp only [reachBytes] at hreach
    obtain ⟨b, off, spot⟩ := a
    have key : ∀ i, i < len → ∃ X, El W b (off + i * 2) X 17592186044416 := by
      intro i hi
      obtain ⟨c0, c1, t0, t1⟩ := hcell i (by omega)
      have hspot : spot = none := by simpa [Addr.add] using World.cell?_spot (hcell 0 (by omega)).1
      subst hspot
      rw [add_plain] at c0 c1
      obtain ⟨ng, hb0, _⟩ := DataW.trod_bool Try.underlying4 t0
      injection hb0 with hb0 _
      rw [hb0] at c0
      rcases open_ints Try.underlying30 Try.underlying59 Try.cells64 t1 with ⟨hcs, hx⟩ | ⟨a1, l1, k1, zs, hcs, _, hl1, hm1, hz, hx, hcl, hwz⟩
      · injection hcs with hcs _
        rw [hcs] at c1
        exact ⟨_, ng, _, _, _, c0, by rw [← Nat.add_assoc] at c1; exact c1, [], Rd.nil, rfl, by omega⟩
      · injection hcs with hcs _
        rw [hcs] at c1
        simp only [if_true] at hz
        simp only [Prod.mk.injEq] at hx
        have hw := hsz (((lits .u64 (zs.take l1)).length + (lits .u64 (zs.drop l1)).length) * 8) (by
          simp only [DataW.weights, Try.underlying66]
          refine List.mem_cons_of_mem _ (List.mem_append_left _ (among (.agg [D0 i, D1 i]) _ (List.mem_map.2 ⟨i, List.mem_range.2 hi, rfl⟩) _ ?_))
          rw [hx.1]
          simp [DataW.weights, DataW.weightsEach, Try.underlying32, Try.underlying30, Try.bytes64]
          exact .inr (.inl rfl))
        simp only [lits, List.length_map, List.length_take, List.length_drop, reachBytes] at hw
        have hzl : (zs.take l1).length = l1 := by simp; omega
        refine ⟨_, ng, _, _, _, c0, by rw [← Nat.add_assoc] at c1; exact c1, zs.take l1, ⟨hzl, hl1, by omega, fun x hx => wf_lm (hwz x (List.mem_of_mem_take hx)), fun hn => ?_⟩, rfl, by omega⟩
        obtain ⟨b1, o1, s1⟩ := a1
        have hs1 : s1 = none := by simpa [Addr.add] using World.cell?_spot (hcl 0 (by omega))
        subst hs1
        have hbW : b1 < W.heap.size := hlt (.cell b1 o1) (by
          rw [List.mem_append]
          refine .inr (List.mem_flatMap.2 ⟨i, List.mem_range.2 (by omega), ?_⟩)
          rw [hx.2, List.mem_append]
          exact .inr (MemPlace.mem_row.2 ⟨0, by omega, by simp⟩))
        refine ⟨b1, o1, rfl, hbW, fun k hk => ?_⟩
        have hk2 : k < zs.length := by omega
        rw [← add_plain, hcl k hk2, List.getElem_take]
        simp [List.getD, List.getElem?_eq_getElem hk2]
    refine ⟨_, _, _, (List.range len).map fun i => if h : i < len then Classical.choose (key i h) else 0, rfl, by simp, hl, by omega, fun hn => ?_⟩
    have hspot : spot = none := by simpa [Addr.add] using World.cell?_spot (hcell 0 (by omega)).1
    subst hspot
    refine ⟨b, off, rfl, hlt (.cell b off) (by rw [List.mem_append]; exact .inl (MemPlace.mem_row.2 ⟨0, by omega, by simp⟩)), fun k hk => ?_⟩
    simp only [List.length_map, List.length_range] at hk
    simp only [List.getElem_map, List.getElem_range, hk, dite_true]
    exact Classical.choose_spec (key k hk)
theorem sized_poly {H : Type} {ts : List TypeId} {ds : List (DataW H)} (h : (DataW.weightsEach Try.prog ts ds).all (· ≤ reachBytes) = true) {j : Nat} {d : DataW H} {t : TypeId} (ht : ts[j]? = some t) (hd : ds[j]? = some d) :
    ∀ n ∈ d.weights Try.prog t, n ≤ reachBytes := fun n hn => by
  have := List.all_eq_true.1 h _ (DataW.weights_mem_each ht hd n hn)
  simpa using this
end Go.Proofs.Ytbpamkpclofnbaa
namespace Go.Proofs.Ytbpamkpclofnbaa
open Go.Joins Go.ChangeShapes Go.WideShapes Go.ChangeAt Go.RowKit
set_option linter.unusedVariables false
set_option maxRecDepth 100000

theorem Try.cellsRow : Try.prog.cellsOf 35 = 1 := by kernel_rfl
theorem Try.bytesRow : Try.prog.bytesOf 35 = 24 := by kernel_rfl
/-- A list of integers in a cell. -/
theorem open_zrow {H : Type} {enc : TypeId × Value → H} {W : World} {v : Value} {d : DataW H} {ps : List MemPlace} {t : TypeId} {fuel : Nat} (ht : Try.prog.underlying t = some (.slice 32))
    (hf : DataW.trod enc Try.prog W 0 (fun _ => true) true fuel t [v] = some (d, ps)) (hlt : ∀ x ∈ ps, x.block < W.heap.size)
    (hsz : ∀ n ∈ d.weights Try.prog t, n ≤ reachBytes) : ∃ A n c l, v = .slice A n c ∧ Pa W A n c l := by
  rcases Go.Deep.open_slice_pairs ht Try.underlying32 Try.cellsZ rfl rfl Try.cellsBool Try.cellsLimbs hf with ⟨hcs, hx⟩ | ⟨a, len, cap, m, f, V0, V1, D0, D1, P0, P1, hcs, _, hl, hm, hmm, hx, hcell⟩
  · injection hcs with hcs _
    subst hcs
    exact ⟨_, _, _, [], rfl, rfl, Nat.le_refl _, by omega, fun h => absurd h (by omega)⟩
  · injection hcs with hcs _
    subst hcs
    simp only [Prod.mk.injEq] at hx
    obtain ⟨rfl, rfl⟩ := hx
    simp only [if_true] at hmm
    have hreach := hsz ((len + (m - len)) * 32) (by simp [DataW.weights, ht, Try.bytesZ])
    simp only [reachBytes] at hreach
    obtain ⟨b, off, spot⟩ := a
    have key : ∀ i, i < len → ∃ X, El W b (off + i * 2) X 17592186044416 := by
      intro i hi
      obtain ⟨c0, c1, t0, t1⟩ := hcell i (by omega)
      have hspot : spot = none := by simpa [Addr.add] using World.cell?_spot (hcell 0 (by omega)).1
      subst hspot
      rw [add_plain] at c0 c1
      obtain ⟨ng, hb0, _⟩ := DataW.trod_bool Try.underlying4 t0
      injection hb0 with hb0 _
      rw [hb0] at c0
      rcases open_ints Try.underlying30 Try.underlying59 Try.cells64 t1 with ⟨hcs, hx⟩ | ⟨a1, l1, k1, zs, hcs, _, hl1, hm1, hz, hx, hcl, hwz⟩
      · injection hcs with hcs _
        rw [hcs] at c1
        exact ⟨_, ng, _, _, _, c0, by rw [← Nat.add_assoc] at c1; exact c1, [], Rd.nil, rfl, by omega⟩
      · injection hcs with hcs _
        rw [hcs] at c1
        simp only [if_true] at hz
        simp only [Prod.mk.injEq] at hx
        have hw := hsz (((lits .u64 (zs.take l1)).length + (lits .u64 (zs.drop l1)).length) * 8) (by
          simp only [DataW.weights, ht]
          refine List.mem_cons_of_mem _ (List.mem_append_left _ (among (.agg [D0 i, D1 i]) _ (List.mem_map.2 ⟨i, List.mem_range.2 hi, rfl⟩) _ ?_))
          rw [hx.1]
          simp [DataW.weights, DataW.weightsEach, Try.underlying32, Try.underlying30, Try.bytes64]
          exact .inr (.inl rfl))
        simp only [lits, List.length_map, List.length_take, List.length_drop, reachBytes] at hw
        have hzl : (zs.take l1).length = l1 := by simp; omega
        refine ⟨_, ng, _, _, _, c0, by rw [← Nat.add_assoc] at c1; exact c1, zs.take l1, ⟨hzl, hl1, by omega, fun x hx => wf_lm (hwz x (List.mem_of_mem_take hx)), fun hn => ?_⟩, rfl, by omega⟩
        obtain ⟨b1, o1, s1⟩ := a1
        have hs1 : s1 = none := by simpa [Addr.add] using World.cell?_spot (hcl 0 (by omega))
        subst hs1
        have hbW : b1 < W.heap.size := hlt (.cell b1 o1) (by
          rw [List.mem_append]
          refine .inr (List.mem_flatMap.2 ⟨i, List.mem_range.2 (by omega), ?_⟩)
          rw [hx.2, List.mem_append]
          exact .inr (MemPlace.mem_row.2 ⟨0, by omega, by simp⟩))
        refine ⟨b1, o1, rfl, hbW, fun k hk => ?_⟩
        have hk2 : k < zs.length := by omega
        rw [← add_plain, hcl k hk2, List.getElem_take]
        simp [List.getD, List.getElem?_eq_getElem hk2]
    refine ⟨_, _, _, (List.range len).map fun i => if h : i < len then Classical.choose (key i h) else 0, rfl, by simp, hl, by omega, fun hn => ?_⟩
    have hspot : spot = none := by simpa [Addr.add] using World.cell?_spot (hcell 0 (by omega)).1
    subst hspot
    refine ⟨b, off, rfl, hlt (.cell b off) (by rw [List.mem_append]; exact .inl (MemPlace.mem_row.2 ⟨0, by omega, by simp⟩)), fun k hk => ?_⟩
    simp only [List.length_map, List.length_range] at hk
    simp only [List.getElem_map, List.getElem_range, hk, dite_true]
    exact Classical.choose_spec (key k hk)
/-- A list of integers that came in. -/
theorem open_zs {H : Type} {enc : TypeId × Value → H} {W : World} {base : Nat} {v : Value} {d : DataW H} {ps : List MemPlace} (hok : Value.okWide Try.prog W .any base 35 v)
    (h : DataW.Trod enc Try.prog W 0 (fun _ => true) true 35 v d ps) (hlt : ∀ x ∈ ps, x.block < W.heap.size)
    (hsz : ∀ n ∈ d.weights Try.prog 35, n ≤ reachBytes) : ∃ A n c l, v = .slice A n c ∧ Pa W A n c l := by
  obtain ⟨a0, len, cap, rfl⟩ := okWide_slice Try.underlying35 hok
  obtain ⟨fuel, hf⟩ := h
  exact open_zrow Try.underlying35 (by simpa [Value.cells] using hf) hlt hsz
/-- A matrix that came in. -/
theorem open_mat {H : Type} {enc : TypeId × Value → H} {W : World} {base : Nat} {v : Value} {d : DataW H} {ps : List MemPlace} (hok : Value.okWide Try.prog W .any base 22 v)
    (h : DataW.Trod enc Try.prog W 0 (fun _ => true) true 22 v d ps) (hlt : ∀ x ∈ ps, x.block < W.heap.size)
    (hsz : ∀ n ∈ d.weights Try.prog 22, n ≤ reachBytes) : ∃ A n c M, v = .slice A n c ∧ Ma W A n c M := by
  obtain ⟨a0, len, cap, rfl⟩ := okWide_slice Try.underlying22 hok
  obtain ⟨fuel, hf⟩ := h
  rcases Go.Deep.open_slice1 Try.underlying22 Try.cellsRow hf with ⟨hcs, hx⟩ | ⟨a, len', cap', m, f, V, D, Pl, hcs, _, hl, hm, hmm, hx, hcell⟩
  · simp [Value.cells] at hcs
    obtain ⟨rfl, rfl, rfl⟩ := hcs
    exact ⟨_, _, _, [], rfl, rfl, Nat.le_refl _, by omega, fun h => absurd h (by omega)⟩
  · simp [Value.cells] at hcs
    obtain ⟨rfl, rfl, rfl⟩ := hcs
    simp only [Prod.mk.injEq] at hx
    obtain ⟨rfl, rfl⟩ := hx
    simp only [if_true] at hmm
    have hreach := hsz ((len + (m - len)) * 24) (by simp [DataW.weights, Try.underlying22, Try.bytesRow])
    simp only [reachBytes] at hreach
    obtain ⟨b, off, spot⟩ := a
    have key : ∀ i, i < len → ∃ q : Option Addr × Nat × Nat × List Int, W.cell? ⟨b, off + i, none⟩ = some (.slice q.1 q.2.1 q.2.2.1) ∧ Pa W q.1 q.2.1 q.2.2.1 q.2.2.2 := by
      intro i hi
      obtain ⟨c0, t0⟩ := hcell i (by omega)
      have hspot : spot = none := by simpa [Addr.add] using World.cell?_spot (hcell 0 (by omega)).1
      subst hspot
      rw [add_plain] at c0
      obtain ⟨A, n, c, l, hV, hP⟩ := open_zrow (v := V i) Try.underlying35 t0 (fun x hx => hlt x (by
          rw [List.mem_append]
          exact .inr (List.mem_flatMap.2 ⟨i, List.mem_range.2 (by omega), hx⟩)))
        (fun k hk => hsz k (by
          simp only [DataW.weights, Try.underlying22]
          exact List.mem_cons_of_mem _ (List.mem_append_left _ (among (D i) _ (List.mem_map.2 ⟨i, List.mem_range.2 hi, rfl⟩) _ hk))))
      rw [hV] at c0
      exact ⟨(A, n, c, l), c0, hP⟩
    obtain ⟨q, hq⟩ := Go.Deep.choose_lt key
    refine ⟨_, _, _, (List.range len).map fun i => (q i).2.2.2, rfl, by simp, hl, by omega, fun hn => ?_⟩
    have hspot : spot = none := by simpa [Addr.add] using World.cell?_spot (hcell 0 (by omega)).1
    subst hspot
    refine ⟨b, off, rfl, hlt (.cell b off) (by rw [List.mem_append]; exact .inl (MemPlace.mem_row.2 ⟨0, by omega, by simp⟩)), fun k hk => ?_⟩
    simp only [List.length_map, List.length_range] at hk
    obtain ⟨h1, h2⟩ := hq k hk
    simp only [List.getElem_map, List.getElem_range]
    exact ⟨_, _, _, h1, h2⟩
end Go.Proofs.Ytbpamkpclofnbaa
