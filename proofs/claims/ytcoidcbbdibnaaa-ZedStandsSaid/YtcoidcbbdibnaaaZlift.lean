/-
  From an argument's reading to an integer: what every row of zed's laws wants.
-/
import Derived.Test.YtcoidcbbdibnaaaZint
import Derived.Test.YtcoidcbbdibnaaaLift
import Derived.Lib.SmallJoins
namespace Go.Proofs.Ytcoidcbbdibnaaa
open Go.Joins Go.ChangeShapes Go.WideShapes Go.ChangeAt Go.RowKit
set_option linter.unusedVariables false

theorem Try.cellsInt : Try.prog.cellsOf 24 = 2 := by kernel_rfl

theorem sized_mag {H : Type} {ts : List TypeId} {ds : List (DataW H)} (h : (DataW.weightsEach Try.prog ts ds).all (· ≤ reachBytes) = true) {j : Nat} {d0 : DataW H} {elems spare : List (DataW H)} (ht : ts[j]? = some 24) (hd : ds[j]? = some (.agg [d0, .slice elems spare])) :
    (elems.length + spare.length) * Try.prog.bytesOf 29 ≤ reachBytes := by
  have := List.all_eq_true.1 h _ (DataW.weights_mem_each ht hd ((elems.length + spare.length) * Try.prog.bytesOf 29) (by simp [DataW.weights, DataW.weightsEach, Try.underlying24, Try.underlying22]))
  simpa using this

/-- An integer that came in. -/
theorem open_z {H : Type} {enc : TypeId × Value → H} {W : World} {base : Nat} {v : Value} {d : DataW H} {ps : List MemPlace} (hok : Value.okWide Try.prog W .any base 24 v)
    (h : DataW.Trod enc Try.prog W 0 (fun _ => true) true 24 v d ps) (hlt : ∀ x ∈ ps, x.block < W.heap.size)
    (hsz : ∀ d0 elems spare, d = .agg [d0, .slice elems spare] → (elems.length + spare.length) * Try.prog.bytesOf 29 ≤ reachBytes) : ∃ b A n c l, v = .agg #[.bool b, .slice A n c] ∧ Rd W W.heap.size A n c l := by
  obtain ⟨v0, v1, y0, y1, m, rfl, rfl, rfl, t0, t1⟩ := open_agg2 Try.underlying24 (by kernel_rfl) Try.cellsInt hok h
  obtain ⟨b, hb0, _⟩ := DataW.trod_bool Try.underlying4 t0
  injection hb0 with hb0 _
  subst hb0
  rcases open_ints Try.underlying22 Try.underlying29 Try.cells64 t1 with ⟨hcs, hx⟩ | ⟨a, len', cap', zs, hcs, _, hl, hm, hz, hx, hcell, hwz⟩
  · injection hcs with hcs _
    subst hcs
    exact ⟨b, _, _, _, [], rfl, Rd.nil⟩
  · injection hcs with hcs _
    subst hcs
    subst hx
    simp only [if_true] at hz
    have hreach := hsz _ _ _ rfl
    rw [Try.bytes64] at hreach
    simp only [lits, List.length_map, List.length_take, List.length_drop, reachBytes] at hreach
    have hzl : (zs.take len').length = len' := by simp; omega
    refine ⟨b, _, _, _, zs.take len', rfl, hzl, hl, by omega, fun x hx => wf_lm (hwz x (List.mem_of_mem_take hx)), fun hn => ?_⟩
    obtain ⟨b1, off, spot⟩ := a
    have hspot : spot = none := by simpa [Addr.add] using World.cell?_spot (hcell 0 (by omega))
    subst hspot
    have hbW : b1 < W.heap.size := hlt (.cell b1 off) (by rw [List.mem_append]; exact .inr (MemPlace.mem_row.2 ⟨0, by omega, by simp⟩))
    refine ⟨b1, off, rfl, hbW, fun k hk => ?_⟩
    have hk2 : k < zs.length := by omega
    rw [← add_plain, hcell k hk2, List.getElem_take]
    simp [List.getD, List.getElem?_eq_getElem hk2]
end Go.Proofs.Ytcoidcbbdibnaaa
