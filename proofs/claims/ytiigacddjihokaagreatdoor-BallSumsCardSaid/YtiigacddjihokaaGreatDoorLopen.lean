/-
 From an argument's reading to a ball.
-/
import Derived.Test.YtiigacddjihokaaGreatDoorLint
import Derived.Test.YtiigacddjihokaaGreatDoorPh
import Derived.Deep.Strs
namespace Go.Proofs.YtiigacddjihokaaGreatDoor
open Go.Joins Go.ChangeShapes Go.WideShapes Go.ChangeAt Go.RowKit Go.Deep
set_option linter.unusedVariables false
set_option maxRecDepth 100000

theorem Tryz.cellsBall : Tryz.prog.cellsOf 26 = 5 := by kernel_rfl
theorem sized_lmag0 {H : Type} {ts : List TypeId} {ds : List (DataW H)} (h : (DataW.weightsEach Tryz.prog ts ds).all (· ≤ reachBytes) = true) {j : Nat} {d0 d1 d2 : DataW H} {elems spare : List (DataW H)} (ht : ts[j]? = some 26) (hd : ds[j]? = some (.agg [.agg [d0, .slice elems spare], d1, d2])) :
  (elems.length + spare.length) * Tryz.prog.bytesOf 66 ≤ reachBytes := by
 have := List.all_eq_true.1 h _ (DataW.weights_mem_each ht hd ((elems.length + spare.length) * Tryz.prog.bytesOf 66) (by simp [DataW.weights, DataW.weightsEach, Tryz.underlying26, Tryz.underlying24, Tryz.underlying22]))
 simpa using this
theorem sized_lmag1 {H : Type} {ts : List TypeId} {ds : List (DataW H)} (h : (DataW.weightsEach Tryz.prog ts ds).all (· ≤ reachBytes) = true) {j : Nat} {d0 d1 d2 : DataW H} {elems spare : List (DataW H)} (ht : ts[j]? = some 26) (hd : ds[j]? = some (.agg [d1, .agg [d0, .slice elems spare], d2])) :
  (elems.length + spare.length) * Tryz.prog.bytesOf 66 ≤ reachBytes := by
 have := List.all_eq_true.1 h _ (DataW.weights_mem_each ht hd ((elems.length + spare.length) * Tryz.prog.bytesOf 66) (by simp [DataW.weights, DataW.weightsEach, Tryz.underlying26, Tryz.underlying24, Tryz.underlying22]))
 simpa using this
/-- An integer within, from its reading. -/
theorem open_zin {H : Type} {enc : TypeId × Value → H} {W : World} {m : Nat} {a0 a1 : Value} {y : DataW H × List MemPlace} (t0 : DataW.trod enc Tryz.prog W 0 (fun _ => true) true m 24 [a0, a1] = some y) (hlt : ∀ x ∈ y.2, x.block < W.heap.size)
  (hsz : ∀ d0 elems spare, y.1 = .agg [d0, .slice elems spare] → (elems.length + spare.length) * Tryz.prog.bytesOf 66 ≤ reachBytes) :
  ∃ b A n c l, a0 = .bool b ∧ a1 = .slice A n c ∧ Rd W W.heap.size A n c l := by
 obtain ⟨z0, z1, m2, hy, _, s0, s1⟩ := trod_struct2 Tryz.underlying24 t0
 have hcb : Tryz.prog.cellsOf 4 = 1 := by kernel_rfl
 have hcs64 : Tryz.prog.cellsOf 22 = 1 := by kernel_rfl
 simp only [hcb, hcs64, List.drop_zero, List.take_succ_cons, List.take_zero, List.drop_succ_cons] at s0 s1
 obtain ⟨b, hb0, _⟩ := DataW.trod_bool Tryz.underlying4 s0
 injection hb0 with hb0 _
 subst hb0
 subst hy
 rcases open_ints Tryz.underlying22 Tryz.underlying66 Tryz.cells64 s1 with ⟨hcs2, hx⟩ | ⟨a, len', cap', zs, hcs2, _, hl, hm, hz, hx, hcell, hwz⟩
 ·injection hcs2 with hcs2 _
  subst hcs2
  exact ⟨b, _, _, _, [], rfl, rfl, Rd.nil⟩
 ·injection hcs2 with hcs2 _
  subst hcs2
  subst hx
  simp only [if_true] at hz
  have hreach := hsz _ _ _ rfl
  rw [Tryz.bytes64] at hreach
  simp only [lits, List.length_map, List.length_take, List.length_drop, reachBytes] at hreach
  have hzl : (zs.take len').length = len' := by simp; omega
  refine ⟨b, _, _, _, zs.take len', rfl, rfl, hzl, hl, by omega, fun x hx => wf_lm (hwz x (List.mem_of_mem_take hx)), fun hn => ?_⟩
  obtain ⟨b1, off, spot⟩ := a
  have hspot : spot = none := by simpa [Addr.add] using World.cell?_spot (hcell 0 (by omega))
  subst hspot
  have hbW : b1 < W.heap.size := hlt (.cell b1 off) (by rw [List.mem_append]; exact .inr (MemPlace.mem_row.2 ⟨0, by omega, by simp⟩))
  refine ⟨b1, off, rfl, hbW, fun k hk => ?_⟩
  have hk2 : k < zs.length := by omega
  rw [← add_plain, hcell k hk2, List.getElem_take]
  simp [List.getD, List.getElem?_eq_getElem hk2]
/-- A ball that came in. -/
theorem open_l {H : Type} {enc : TypeId × Value → H} {W : World} {base : Nat} {v : Value} {d : DataW H} {ps : List MemPlace} (hok : Value.okWide Tryz.prog W .any base 26 v)
  (h : DataW.Trod enc Tryz.prog W 0 (fun _ => true) true 26 v d ps) (hlt : ∀ x ∈ ps, x.block < W.heap.size)
  (hsz0 : ∀ d0 d1 d2 elems spare, d = .agg [.agg [d0, .slice elems spare], d1, d2] → (elems.length + spare.length) * Tryz.prog.bytesOf 66 ≤ reachBytes)
  (hsz1 : ∀ d0 d1 d2 elems spare, d = .agg [d1, .agg [d0, .slice elems spare], d2] → (elems.length + spare.length) * Tryz.prog.bytesOf 66 ≤ reachBytes) :
  ∃ b A n c l b2 A2 n2 c2 l2 e, v = .agg #[.bool b, .slice A n c, .bool b2, .slice A2 n2 c2, .int .i64 e] ∧ Rd W W.heap.size A n c l ∧ Rd W W.heap.size A2 n2 c2 l2 ∧ (-9223372036854775808 ≤ e ∧ e ≤ 9223372036854775807) := by
 obtain ⟨cs, rfl, hcs⟩ := okWide_struct Tryz.underlying26 hok
 have hc5 : cs.size = 5 := hcs.trans Tryz.cellsBall
 obtain ⟨fuel, hf⟩ := h
 obtain ⟨y0, y1, y2, m, hx, _, t0, t1, t2⟩ := trod_struct3 Tryz.underlying26 hf
 simp only [Prod.mk.injEq] at hx
 obtain ⟨rfl, rfl⟩ := hx
 obtain ⟨a0, a1, a2, a3, a4, rfl⟩ : ∃ a0 a1 a2 a3 a4, cs = #[a0, a1, a2, a3, a4] := by
  match cs, hc5 with
  | ⟨[a0, a1, a2, a3, a4]⟩, _ => exact ⟨a0, a1, a2, a3, a4, rfl⟩
 have hcI : Tryz.prog.cellsOf 24 = 2 := Tryz.cellsInt
 have hc1 : Tryz.prog.cellsOf 3 = 1 := by kernel_rfl
 simp only [Value.cells, hcI, hc1, List.drop_zero, List.take_succ_cons, List.take_zero, List.drop_succ_cons] at t0 t1 t2
 obtain ⟨e, he1, he2, hwf⟩ := DataW.trod_int Tryz.underlying3 t2
 injection he1 with he1 _
 subst he1
 obtain ⟨b, A, n, c, l, rfl, rfl, r0⟩ := open_zin t0 (fun x hx => hlt x (by simp [hx])) (fun d0 el sp hd => hsz0 d0 y1.1 y2.1 el sp (by rw [hd]))
 obtain ⟨b2, A2, n2, c2, l2, rfl, rfl, r1⟩ := open_zin t1 (fun x hx => hlt x (by simp [hx])) (fun d0 el sp hd => hsz1 d0 y0.1 y2.1 el sp (by rw [hd]))
 exact ⟨_, _, _, _, _, _, _, _, _, _, _, rfl, r0, r1, bounds_int hwf⟩
end Go.Proofs.YtiigacddjihokaaGreatDoor
