/-
  From an argument's reading to a list of lists of integers.
-/
import Derived.Test.YtbpamkpclofnbaaGreatPb
import Derived.ProofKit
import Derived.SizedLaws
import Derived.OpenShut
import Derived.Test.YtbpamkpclofnbaaGreatPc
import Derived.Lib.SmallJoins
import Derived.Test.YtbpamkpclofnbaaGreatMbuild
import Derived.Deep.SlicePairs
import Derived.Test.YtbpamkpclofnbaaGreatMclo
namespace Go.Proofs.YtbpamkpclofnbaaGreat
section
set_option maxRecDepth 100000
open Go.ChangeShapes Go.WideShapes Go.ChangeAt Go.RowKit
set_option linter.unusedVariables false

theorem Tryz.own : ownKnob Tryz.prog.godebug = none := by kernel_rfl
theorem Tryz.laidOut : laidOutB Tryz.prog = true := by kernel_rfl
theorem Tryz.cells64 : Tryz.prog.cellsOf 69 = 1 := by kernel_rfl
theorem Tryz.bytes64 : Tryz.prog.bytesOf 69 = 8 := by kernel_rfl

theorem wf_lm {n : Int} (h : (Lit.int .u64 n).wf = true) : 0 ≤ n ∧ n < (Wd : Int) := by
  simp only [Lit.wf, Bool.and_eq_true, decide_eq_true_eq] at h
  have h1 : IntKind.u64.min = 0 := rfl
  have h2 : IntKind.u64.max = 18446744073709551615 := rfl
  rw [Wd_eq]; omega
end
end Go.Proofs.YtbpamkpclofnbaaGreat
namespace Go.Proofs.YtbpamkpclofnbaaGreat
section
set_option maxRecDepth 100000
open Go.Joins Go.ChangeShapes Go.WideShapes Go.ChangeAt Go.RowKit
set_option linter.unusedVariables false

end
end Go.Proofs.YtbpamkpclofnbaaGreat
namespace Go.Proofs.YtbpamkpclofnbaaGreat
open Go.Joins Go.ChangeShapes Go.WideShapes Go.ChangeAt Go.RowKit
set_option linter.unusedVariables false
set_option maxRecDepth 100000

theorem Tryz.cellsBool : Tryz.prog.cellsOf 4 = 1 := by kernel_rfl
theorem Tryz.cellsLimbs : Tryz.prog.cellsOf 28 = 1 := by kernel_rfl
theorem Tryz.cellsZ : Tryz.prog.cellsOf 30 = 2 := by kernel_rfl
theorem Tryz.bytesZ : Tryz.prog.bytesOf 30 = 32 := by kernel_rfl

theorem among {H : Type} {P : Program} {e : TypeId} (d : DataW H) : ∀ l : List (DataW H), d ∈ l → ∀ n, n ∈ d.weights P e → n ∈ DataW.weightsAll P e l := by
  intro l
  induction l with
  | nil => intro h; cases h
  | cons y r ih =>
    intro h n hn
    simp only [DataW.weightsAll, List.mem_append]
    cases h with
    | head => exact .inl hn
    | tail _ h => exact .inr (ih h n hn)

theorem sized_poly {H : Type} {ts : List TypeId} {ds : List (DataW H)} (h : (DataW.weightsEach Tryz.prog ts ds).all (· ≤ reachBytes) = true) {j : Nat} {d : DataW H} {t : TypeId} (ht : ts[j]? = some t) (hd : ds[j]? = some d) :
    ∀ n ∈ d.weights Tryz.prog t, n ≤ reachBytes := fun n hn => by
  have := List.all_eq_true.1 h _ (DataW.weights_mem_each ht hd n hn)
  simpa using this
end Go.Proofs.YtbpamkpclofnbaaGreat
namespace Go.Proofs.YtbpamkpclofnbaaGreat
open Go.Joins Go.ChangeShapes Go.WideShapes Go.ChangeAt Go.RowKit
set_option linter.unusedVariables false
set_option maxRecDepth 100000

theorem Tryz.cellsRow : Tryz.prog.cellsOf 22 = 1 := by kernel_rfl
theorem Tryz.bytesRow : Tryz.prog.bytesOf 22 = 24 := by kernel_rfl
/-- A list of integers in a cell. -/
theorem open_zrow {H : Type} {enc : TypeId × Value → H} {W : World} {v : Value} {d : DataW H} {ps : List MemPlace} {t : TypeId} {fuel : Nat} (ht : Tryz.prog.underlying t = some (.slice 30))
    (hf : DataW.trod enc Tryz.prog W 0 (fun _ => true) true fuel t [v] = some (d, ps)) (hlt : ∀ x ∈ ps, x.block < W.heap.size)
    (hsz : ∀ n ∈ d.weights Tryz.prog t, n ≤ reachBytes) : ∃ A n c l, v = .slice A n c ∧ Pa W A n c l := by
  rcases Go.Deep.open_slice_pairs ht Tryz.underlying30 Tryz.cellsZ rfl rfl Tryz.cellsBool Tryz.cellsLimbs hf with ⟨hcs, hx⟩ | ⟨a, len, cap, m, f, V0, V1, D0, D1, P0, P1, hcs, _, hl, hm, hmm, hx, hcell⟩
  · injection hcs with hcs _
    subst hcs
    exact ⟨_, _, _, [], rfl, rfl, Nat.le_refl _, by omega, fun h => absurd h (by omega)⟩
  · injection hcs with hcs _
    subst hcs
    simp only [Prod.mk.injEq] at hx
    obtain ⟨rfl, rfl⟩ := hx
    simp only [if_true] at hmm
    have hreach := hsz ((len + (m - len)) * 32) (by simp [DataW.weights, ht, Tryz.bytesZ])
    simp only [reachBytes] at hreach
    obtain ⟨b, off, spot⟩ := a
    have key : ∀ i, i < len → ∃ X, El W b (off + i * 2) X 17592186044416 := by
      intro i hi
      obtain ⟨c0, c1, t0, t1⟩ := hcell i (by omega)
      have hspot : spot = none := by simpa [Addr.add] using World.cell?_spot (hcell 0 (by omega)).1
      subst hspot
      rw [add_plain] at c0 c1
      obtain ⟨ng, hb0, _⟩ := DataW.trod_bool Tryz.underlying4 t0
      injection hb0 with hb0 _
      rw [hb0] at c0
      rcases open_ints Tryz.underlying28 Tryz.underlying69 Tryz.cells64 t1 with ⟨hcs, hx⟩ | ⟨a1, l1, k1, zs, hcs, _, hl1, hm1, hz, hx, hcl, hwz⟩
      · injection hcs with hcs _
        rw [hcs] at c1
        exact ⟨_, ng, _, _, _, c0, by rw [← Nat.add_assoc] at c1; exact c1, [], Rd.nil, rfl, by omega⟩
      · injection hcs with hcs _
        rw [hcs] at c1
        simp only [if_true] at hz
        simp only [Prod.mk.injEq] at hx
        have hw := hsz (((lits .u64 (zs.take l1)).length + (lits .u64 (zs.drop l1)).length) * 8) (by
          simp only [DataW.weights, ht]
          refine List.mem_cons_of_mem _ (List.mem_append_left _ (among (.agg [D0 i, D1 i]) _ (List.mem_map.2 ⟨i, List.mem_range.2 hi, rfl⟩) _ ?_))
          rw [hx.1]
          simp [DataW.weights, DataW.weightsEach, Tryz.underlying30, Tryz.underlying28, Tryz.bytes64]
          exact .inr (.inl rfl))
        simp only [lits, List.length_map, List.length_take, List.length_drop, reachBytes] at hw
        have hzl : (zs.take l1).length = l1 := by simp; omega
        refine ⟨_, ng, _, _, _, c0, by rw [← Nat.add_assoc] at c1; exact c1, zs.take l1, ⟨hzl, hl1, by omega, fun x hx => wf_lm (hwz x (List.mem_of_mem_take hx)), fun hn => ?_⟩, rfl, by omega⟩
        obtain ⟨b1, o1, s1⟩ := a1
        have hs1 : s1 = none := by simpa [Addr.add] using World.cell?_spot (hcl 0 (by omega))
        subst hs1
        have hbW : b1 < W.heap.size := hlt (.cell b1 o1) (by
          rw [List.mem_append]
          refine .inr (List.mem_flatMap.2 ⟨i, List.mem_range.2 (by omega), ?_⟩)
          rw [hx.2, List.mem_append]
          exact .inr (MemPlace.mem_row.2 ⟨0, by omega, by simp⟩))
        refine ⟨b1, o1, rfl, hbW, fun k hk => ?_⟩
        have hk2 : k < zs.length := by omega
        rw [← add_plain, hcl k hk2, List.getElem_take]
        simp [List.getD, List.getElem?_eq_getElem hk2]
    refine ⟨_, _, _, (List.range len).map fun i => if h : i < len then Classical.choose (key i h) else 0, rfl, by simp, hl, by omega, fun hn => ?_⟩
    have hspot : spot = none := by simpa [Addr.add] using World.cell?_spot (hcell 0 (by omega)).1
    subst hspot
    refine ⟨b, off, rfl, hlt (.cell b off) (by rw [List.mem_append]; exact .inl (MemPlace.mem_row.2 ⟨0, by omega, by simp⟩)), fun k hk => ?_⟩
    simp only [List.length_map, List.length_range] at hk
    simp only [List.getElem_map, List.getElem_range, hk, dite_true]
    exact Classical.choose_spec (key k hk)
/-- A list of integers that came in. -/
theorem open_zs {H : Type} {enc : TypeId × Value → H} {W : World} {base : Nat} {v : Value} {d : DataW H} {ps : List MemPlace} (hok : Value.okWide Tryz.prog W .any base 22 v)
    (h : DataW.Trod enc Tryz.prog W 0 (fun _ => true) true 22 v d ps) (hlt : ∀ x ∈ ps, x.block < W.heap.size)
    (hsz : ∀ n ∈ d.weights Tryz.prog 22, n ≤ reachBytes) : ∃ A n c l, v = .slice A n c ∧ Pa W A n c l := by
  obtain ⟨a0, len, cap, rfl⟩ := okWide_slice Tryz.underlying22 hok
  obtain ⟨fuel, hf⟩ := h
  exact open_zrow Tryz.underlying22 (by simpa [Value.cells] using hf) hlt hsz
/-- A matrix that came in. -/
theorem open_mat {H : Type} {enc : TypeId × Value → H} {W : World} {base : Nat} {v : Value} {d : DataW H} {ps : List MemPlace} (hok : Value.okWide Tryz.prog W .any base 35 v)
    (h : DataW.Trod enc Tryz.prog W 0 (fun _ => true) true 35 v d ps) (hlt : ∀ x ∈ ps, x.block < W.heap.size)
    (hsz : ∀ n ∈ d.weights Tryz.prog 35, n ≤ reachBytes) : ∃ A n c M, v = .slice A n c ∧ Ma W A n c M := by
  obtain ⟨a0, len, cap, rfl⟩ := okWide_slice Tryz.underlying35 hok
  obtain ⟨fuel, hf⟩ := h
  rcases Go.Deep.open_slice1 Tryz.underlying35 Tryz.cellsRow hf with ⟨hcs, hx⟩ | ⟨a, len', cap', m, f, V, D, Pl, hcs, _, hl, hm, hmm, hx, hcell⟩
  · simp [Value.cells] at hcs
    obtain ⟨rfl, rfl, rfl⟩ := hcs
    exact ⟨_, _, _, [], rfl, rfl, Nat.le_refl _, by omega, fun h => absurd h (by omega)⟩
  · simp [Value.cells] at hcs
    obtain ⟨rfl, rfl, rfl⟩ := hcs
    simp only [Prod.mk.injEq] at hx
    obtain ⟨rfl, rfl⟩ := hx
    simp only [if_true] at hmm
    have hreach := hsz ((len + (m - len)) * 24) (by simp [DataW.weights, Tryz.underlying35, Tryz.bytesRow])
    simp only [reachBytes] at hreach
    obtain ⟨b, off, spot⟩ := a
    have key : ∀ i, i < len → ∃ q : Option Addr × Nat × Nat × List Int, W.cell? ⟨b, off + i, none⟩ = some (.slice q.1 q.2.1 q.2.2.1) ∧ Pa W q.1 q.2.1 q.2.2.1 q.2.2.2 := by
      intro i hi
      obtain ⟨c0, t0⟩ := hcell i (by omega)
      have hspot : spot = none := by simpa [Addr.add] using World.cell?_spot (hcell 0 (by omega)).1
      subst hspot
      rw [add_plain] at c0
      obtain ⟨A, n, c, l, hV, hP⟩ := open_zrow (v := V i) Tryz.underlying22 t0 (fun x hx => hlt x (by
          rw [List.mem_append]
          exact .inr (List.mem_flatMap.2 ⟨i, List.mem_range.2 (by omega), hx⟩)))
        (fun k hk => hsz k (by
          simp only [DataW.weights, Tryz.underlying35]
          exact List.mem_cons_of_mem _ (List.mem_append_left _ (among (D i) _ (List.mem_map.2 ⟨i, List.mem_range.2 hi, rfl⟩) _ hk))))
      rw [hV] at c0
      exact ⟨(A, n, c, l), c0, hP⟩
    obtain ⟨q, hq⟩ := Go.Deep.choose_lt key
    refine ⟨_, _, _, (List.range len).map fun i => (q i).2.2.2, rfl, by simp, hl, by omega, fun hn => ?_⟩
    have hspot : spot = none := by simpa [Addr.add] using World.cell?_spot (hcell 0 (by omega)).1
    subst hspot
    refine ⟨b, off, rfl, hlt (.cell b off) (by rw [List.mem_append]; exact .inl (MemPlace.mem_row.2 ⟨0, by omega, by simp⟩)), fun k hk => ?_⟩
    simp only [List.length_map, List.length_range] at hk
    obtain ⟨h1, h2⟩ := hq k hk
    simp only [List.getElem_map, List.getElem_range]
    exact ⟨_, _, _, h1, h2⟩
end Go.Proofs.YtbpamkpclofnbaaGreat
