/-
  matrix: the closures of the elimination.
-/
import Derived.Test.YtbpamkpclofnbaaGreatMbuild
import Derived.Test.YtbpamkpclofnbaaGreatMmul2
import Derived.Test.YtbpamkpclofnbaaGreatVpush
import Derived.Lib.SliceRun
import Derived.BigRegion
namespace Go.Proofs.YtbpamkpclofnbaaGreat
open Go.RowKit
open MP.Se (nf co)
set_option linter.unusedVariables false
set_option maxRecDepth 100000

theorem Pn.drw' {w : World} {A : Option Addr} {n c J : Nat} {l : List Int} (h : Pn w A n c l J) : Pn w.drew A n c l J := h
theorem RMExact_any {A A2 : Option Addr} {n c n2 c2 J J2 : Nat} {M M2 : List (List Int)} {w : World} (p : Mn w A n c M J) (p2 : Mn w A2 n2 c2 M2 J2) :
    Calls Tryz.prog 88 #[.slice A n c, .slice A2 n2 c2] w fun e w' => e = .returned (.bool (decide (M = M2))) ∧ Below w.heap.size w w' := by
  have hl := p.1; have hl2 := p2.1
  have hbg := p.2.2.1; have hbg2 := p2.2.2.1
  obtain ⟨β, hβ⟩ : ∃ β, decide (M = M2) = β := ⟨_, rfl⟩
  rw [hβ]
  by_cases hn : n = n2
  · subst hn
    have hend : Hid (M = M2 → β = true) := Lib.hid fun h => by rw [← hβ, decide_eq_true_eq]; exact h
    have hne : Hid (∀ i (h1 : i < M.length) (h2 : i < M2.length), M[i] ≠ M2[i] → β = false) := Lib.hid fun i h1 h2 h => by
      rw [← hβ, decide_eq_false_iff_not]; intro e; subst e; exact h rfl
    have HL := Lib.hid hl; have HL2 := Lib.hid hl2
    have G := Lib.hid p; have G2 := Lib.hid p2
    clear hβ hl hl2 p p2
    go_enter Tryz.func88, Tryz.ntmps88
    go_wp2_with fail
    go_loopw [5] (fun kv wr => ∃ i : Nat, i ≤ n ∧ kv = .int .i64 (i : Int) ∧ Hid (∀ j (h1 : j < M.length) (h2 : j < M2.length), j < i → M[j] = M2[j]) ∧ Below w.heap.size w wr) (fun kv _ => n - (intOf kv).toNat)
    case atStart => exact ⟨0, by omega, rfl, Lib.hid fun _ _ _ h => absurd h (by omega), Below.refl _ _⟩
    case round =>
      obtain ⟨i, hi, rfl, heq, hb⟩ := hrel
      rcases (show n = i ∨ i < n by omega) with hin | hin
      · subst hin
        have hte : Hid (β = true) := Lib.hid (hend.out (List.ext_getElem (by rw [HL.out, HL2.out]) fun j h1 h2 => heq.out j h1 h2 (by have := HL.out; omega)))
        clear heq
        go_wp2
        go_ret
        exact ⟨by rw [hte.out]; rfl, hb⟩
      · have hi1 : i < M.length := by have := HL.out; omega
        have hi2 : i < M2.length := by have := HL2.out; omega
        obtain ⟨d, o, A5, n5, c5, rfl, x_e, z⟩ := (G.out.keep hb).row hin
        obtain ⟨d2, o2, A6, n6, c6, rfl, x_f, z2⟩ := (G2.out.keep hb).row hin
        have HNX := Lib.hid (hne.out i hi1 hi2)
        have hnxt : Hid (M[i] = M2[i] → ∀ j (h1 : j < M.length) (h2 : j < M2.length), j < i + 1 → M[j] = M2[j]) := Lib.hid fun e j h1 h2 hj => by
          rcases (show j < i ∨ j = i by omega) with h | h
          · exact heq.out j h1 h2 h
          · subst h; exact e
        clear heq
        generalize M[i] = x at *
        generalize M2[i] = y at *
        have q_e := x_e.al; have q_f := x_f.al
        go_upto_region 6 with fail
        go_region_held3 (fun w' => w'.cell? ⟨d, o + i, none⟩ = some (.slice A5 n5 c5) ∧ w'.cell? ⟨d2, o2 + i, none⟩ = some (.slice A6 n6 c6))
          (first | (with_reducible exact ⟨x_e.c0, x_f.c0⟩) | go_keep)
          (first | (go_at_call 44; (with_reducible refine (RExactAll_any (Pn.drw' z) (Pn.drw' z2)).mono ?_); rintro e v2 ⟨rfl, hb1⟩; replace hb1 := undrew hb1; replace x_e := x_e.keep hb1; replace x_f := x_f.keep hb1; replace hb := bthen hb hb1; clear hb1; replace q_e := x_e.al; replace q_f := x_f.al))
        by_cases hxy : x = y
        · have hq := Lib.hid (hnxt.out hxy)
          have hd9 : decide (x = y) = true := by simpa using hxy
          rw [hd9]
          clear hnxt HNX x_e x_f q_e q_f z z2 hd9 hxy
          go_wp2
          exact ⟨⟨i + 1, by omega, by go_num, hq, hb⟩, by simp [intOf]; omega⟩
        · have hf : Hid (β = false) := Lib.hid (HNX.out hxy)
          have hd9 : decide (x = y) = false := by simpa using hxy
          rw [hd9]
          clear hnxt HNX x_e x_f q_e q_f z z2 hd9 hxy
          go_wp2
          go_ret
          exact ⟨by rw [hf.out]; rfl, hb⟩
  · have hf : Hid (β = false) := Lib.hid (by rw [← hβ, decide_eq_false_iff_not]; intro e; subst e; exact hn (hl.symm.trans hl2))
    have hnn : ((n : Int) != n2) = true := by simp; omega
    clear hβ hl hl2 hn p p2
    go_enter Tryz.func88, Tryz.ntmps88
    go_wp2
    go_ret
    exact ⟨by rw [hf.out]; rfl, Below.refl _ _⟩
theorem LMsame_any {A A2 : Option Addr} {n c n2 c2 J J2 : Nat} {M M2 : List (List Int)} {w : World} (p : Mn w A n c M J) (p2 : Mn w A2 n2 c2 M2 J2) :
    Calls Tryz.prog 32 #[.slice A n c, .slice A2 n2 c2] w fun e w' => e = .returned (.bool (decide (M = M2))) ∧ Below w.heap.size w w' := by
  obtain ⟨β, hβ⟩ : ∃ β, decide (M = M2) = β := ⟨_, rfl⟩
  rw [hβ]
  have HB := Lib.hid hβ; clear hβ
  go_enter Tryz.func32, Tryz.ntmps32
  go_wp2_with fail
  with_reducible refine (RMExact_any p p2).mono ?_
  rintro e v1 ⟨rfl, hb⟩
  rw [HB.out]
  go_wp2
  go_ret
  exact ⟨rfl, hb⟩
/-- A slice of slices of integers that came in, of any length. -/
def Ma (w : World) (A : Option Addr) (n c : Nat) (M : List (List Int)) : Prop :=
  M.length = n ∧ n ≤ c ∧ n ≤ 17592186044416 ∧ (0 < n → ∃ d o, A = some ⟨d, o, none⟩ ∧ d < w.heap.size ∧ ∀ k (hk : k < M.length), ∃ A' m c', w.cell? ⟨d, o + k, none⟩ = some (.slice A' m c') ∧ Pa w A' m c' M[k])
theorem Ma.keep {w v : World} {A : Option Addr} {n c : Nat} {M : List (List Int)} (p : Ma w A n c M) (hb : Below w.heap.size w v) : Ma v A n c M := ⟨p.1, p.2.1, p.2.2.1, fun hn => by
  obtain ⟨d, o, e, hd, hc⟩ := p.2.2.2 hn
  refine ⟨d, o, e, Nat.lt_of_lt_of_le hd hb.size, fun k hk => ?_⟩
  obtain ⟨A', m, c', h1, h2⟩ := hc k hk
  exact ⟨A', m, c', (hb.cell (p := ⟨d, o + k, none⟩) hd).trans h1, h2.keep hb⟩⟩
instance {w v : World} {A : Option Addr} {n c : Nat} {M : List (List Int)} : Mv (Ma w A n c M) w v (Ma v A n c M) := ⟨fun x y => x.keep y⟩
theorem Ma.row {w : World} {A : Option Addr} {n c : Nat} {M : List (List Int)} (p : Ma w A n c M) {k : Nat} (hk : k < n) : ∃ d o A' m c', A = some ⟨d, o, none⟩ ∧ Vc w d (o + k) (.slice A' m c') ∧ Pa w A' m c' (M[k]'(by have := p.1; omega)) := by
  obtain ⟨d, o, e, hd, hc⟩ := p.2.2.2 (by omega)
  obtain ⟨A', m, c', h1, h2⟩ := hc k (by have := p.1; omega)
  exact ⟨d, o, A', m, c', e, ⟨hd, h1⟩, h2⟩
/-- What Fits tells. -/
def FiM (w : World) (A : Option Addr) (n c : Nat) (M : List (List Int)) (R C L : Nat) (e : Ending) (w' : World) : Prop :=
  (e = .returned (.bool false) ∨ (e = .returned (.bool true) ∧ n ≤ R ∧ (∀ k (hk : k < M.length), M[k].length ≤ C) ∧ Md w' w'.heap.size A n c M L)) ∧ Below w.heap.size w w'
theorem RMFits_any {A : Option Addr} {n c R C L : Nat} {M : List (List Int)} {w : World} (p : Ma w A n c M) (hR : R ≤ 1000) (hC : C ≤ 1000) (hL : L ≤ 1000) :
    Calls Tryz.prog 26 #[.slice A n c, .int .i64 (R : Int), .int .i64 (C : Int), .int .i64 (L : Int)] w (FiM w A n c M R C L) := by
  have hl := p.1; have hbg := p.2.2.1
  have HL := Lib.hid hl; have H := Lib.hid p
  clear hl p
  by_cases hn : n ≤ R
  · have hnd : ¬ ((R : Int) < n) := by omega
    have hnd2 : ¬ (R < n) := by omega
    go_enter Tryz.func26, Tryz.ntmps26
    go_wp2_with fail
    go_loopw [9] (fun kv wr => ∃ i : Nat, i ≤ n ∧ kv = .int .i64 (i : Int) ∧ Hid (∀ j (hj : j < M.length), j < i → ∀ d o, A = some ⟨d, o, none⟩ → M[j].length ≤ C ∧ ∃ A' m c', w.cell? ⟨d, o + j, none⟩ = some (.slice A' m c') ∧ Pd wr wr.heap.size A' m c' M[j] L) ∧ Below w.heap.size w wr) (fun kv _ => n - (intOf kv).toNat)
    case atStart => exact ⟨0, by omega, rfl, Lib.hid fun _ _ h => absurd h (by omega), Below.refl _ _⟩
    case round =>
      obtain ⟨i, hi, rfl, hel, hb⟩ := hrel
      rcases (show n = i ∨ i < n by omega) with hin | hin
      · subst hin
        have hrows : Hid (∀ k (hk : k < M.length), M[k].length ≤ C) := Lib.hid fun k hk => by
          obtain ⟨d, o, e, _, _⟩ := H.out.2.2.2 (by have := HL.out; omega)
          exact (hel.out k hk (by rw [← HL.out]; exact hk) d o e).1
        have hmd : Hid (Md wr wr.heap.size A n c M L) := Lib.hid ⟨HL.out, H.out.2.1, by omega, fun h0 => by
          obtain ⟨d, o, e, hd, _⟩ := H.out.2.2.2 h0
          refine ⟨d, o, e, Nat.lt_of_lt_of_le hd hb.size, fun k hk => ?_⟩
          obtain ⟨_, A', m, c', h1, h2⟩ := hel.out k hk (by rw [← HL.out]; exact hk) d o e
          exact ⟨A', m, c', (hb.cell (p := ⟨d, o + k, none⟩) hd).trans h1, h2⟩⟩
        clear hel
        go_wp2
        go_ret
        exact ⟨.inr ⟨rfl, hn, hrows.out, hmd.out⟩, hb⟩
      · obtain ⟨d, o, A5, n5, c5, rfl, x_e, z⟩ := (H.out.keep hb).row hin
        obtain ⟨d0, o0, A0, n0, c0, e0, x_0, _⟩ := H.out.row hin
        injection e0 with e0
        injection e0 with e1 e2 e3
        subst e1
        subst e2
        have hsame := (hb.cell (p := ⟨d, o + i, none⟩) x_0.lt).trans x_0.al
        rw [x_e.al] at hsame
        injection hsame with hsame
        injection hsame with s1 s2 s3
        subst s1
        subst s2
        subst s3
        have hil : i < M.length := by rw [HL.out]; exact hin
        have HX0 := Lib.hid x_0
        have hnx : Hid (∀ wz, Below wr.heap.size wr wz → M[i].length ≤ C → Pd wz wz.heap.size A5 n5 c5 M[i] L → ∀ j (hj : j < M.length), j < i + 1 → ∀ d1 o1, some (⟨d, o, none⟩ : Addr) = some ⟨d1, o1, none⟩ → M[j].length ≤ C ∧ ∃ A' m c', w.cell? ⟨d1, o1 + j, none⟩ = some (.slice A' m c') ∧ Pd wz wz.heap.size A' m c' M[j] L) := Lib.hid fun wz hz h1 h2 j hj hji d1 o1 e => by
          rcases (show j < i ∨ j = i by omega) with h | h
          · obtain ⟨g1, A', m, c', g2, g3⟩ := hel.out j hj h d1 o1 e
            exact ⟨g1, A', m, c', g2, g3.go hz⟩
          · subst h
            injection e with e
            injection e with f1 f2
            subst f1
            subst f2
            exact ⟨h1, A5, n5, c5, HX0.out.al, h2⟩
        have hmi : Hid (M[i].length = n5) := Lib.hid z.1
        clear hel x_0
        have q_e := x_e.al
        generalize M[i] = x at *
        go_wp2_with fail
        with_reducible refine (RFits_any z hC hL).mono ?_
        rintro e v2 ⟨β, rfl, h1, hb1⟩
        cases β
        · replace hb := bthen hb hb1
          clear h1 hb1 hnx z
          go_wp2
          go_ret
          exact ⟨.inl rfl, hb⟩
        · obtain ⟨g1, g2⟩ := h1 rfl
          have hn2 := Lib.hid (hnx.out v2 hb1 (by rw [hmi.out]; exact g1) g2)
          replace hb := bthen hb hb1
          clear h1 hb1 hnx z g1 g2 hmi x_e q_e
          go_wp2_with fail
          exact ⟨⟨i + 1, by omega, by go_num, hn2, hb⟩, by simp [intOf]; omega⟩
  · have hnn : (R : Int) < n := by omega
    go_enter Tryz.func26, Tryz.ntmps26
    go_wp2
    go_ret
    exact ⟨.inl rfl, Below.refl _ _⟩
end Go.Proofs.YtbpamkpclofnbaaGreat
namespace Go.Proofs.YtbpamkpclofnbaaGreat
open Go.RowKit
open MP.Se (nf co)
set_option linter.unusedVariables false
set_option maxRecDepth 100000

/-- A matrix that is built is right. -/
theorem mo2_rt {f : Nat → Nat → Int} {n m : Nat} (hn : 0 < n) (hm : 0 < m) : Rt (mo2 f n m) n m := ⟨mo2_len f n m, hn, hm, fun k hk => by rw [mo2_row hk]; simp⟩
theorem mx_mo2 {f : Nat → Nat → Int} {n m i k : Nat} (hi : i < n) (hk : k < m) : mx (mo2 f n m) i k = f i k := by
  have h1 : i < (mo2 f n m).length := by rw [mo2_len]; exact hi
  rw [mx_at h1 (by rw [mo2_row h1]; simpa using hk)]
  simp [mo2]
theorem Rt.row_len {M : List (List Int)} {n m k : Nat} (h : Rt M n m) (hk : k < n) : (M[k]'(by rw [h.1]; exact hk)).length = m := h.2.2.2 k _
theorem Rt.sq {M : List (List Int)} {n m : Nat} (h : Rt M n m) : Rt M n n ↔ n = m := ⟨fun h2 => (h2.uni h).2, fun e => by subst e; exact h⟩
/-- How many columns a right matrix has: not more than its rows have room for. -/
theorem Rt.wide {M : List (List Int)} {n m C : Nat} (h : Rt M n m) (hc : ∀ k (hk : k < M.length), M[k].length ≤ C) : m ≤ C := by
  have h3 : 0 < M.length := by rw [h.1]; exact h.2.1
  rw [← h.2.2.2 0 h3]; exact hc 0 h3
end Go.Proofs.YtbpamkpclofnbaaGreat
namespace Go.Proofs.YtbpamkpclofnbaaGreat
open Go.RowKit
set_option linter.unusedVariables false
set_option maxRecDepth 100000

/-- Block g is a slice's of n slices, with room for cap. -/
def Oy (w : World) (g n cap : Nat) (xs : List Value) : Prop :=
  ∃ cur : Array Value, w.heap[g]? = some (.cells cur 22 (0, 0)) ∧ n ≤ cap ∧ cap ≤ maxLen ∧ cur.size = cap ∧ cur.toList.take (n) = xs ∧ xs.length = n ∧ Kd cur.toList
section
variable {w w' : World} {g n cap : Nat} {xs : List Value}
theorem Oy.lt (h : Oy w g n cap xs) : g < w.heap.size := by
  obtain ⟨cur, h, _⟩ := h
  exact (Array.getElem?_eq_some_iff.1 h).1
theorem Oy.to (h : Oy w g n cap xs) (hb : w'.heap[g]? = w.heap[g]?) : Oy w' g n cap xs := by
  obtain ⟨cur, h, hc⟩ := h
  exact ⟨cur, hb.trans h, hc⟩
theorem Oy.keep (h : Oy w g n cap xs) (hb : Below w.heap.size w w') : Oy w' g n cap xs := h.to (hb.block g h.lt)
instance Oy.mv {v w : World} : Mv (Oy v g n cap xs) v w (Oy w g n cap xs) := ⟨fun h hb => Oy.keep h hb⟩
theorem Oy.alloc (h : Oy w g n cap xs) (o : Obj) : Oy (w.alloc o) g n cap xs := h.to (Below.heap_alloc w o g h.lt)
theorem Oy.drw (h : Oy w g n cap xs) : Oy w.drew g n cap xs := h
theorem Oy.far (h : Oy w g n cap xs) {z : Addr} (hp : g ≠ z.block) (u : Value) : Oy (w.setCell z u) g n cap xs := h.to (Below.heap_setCell w z u g hp)
theorem Oy.by_ {k : Nat} (h : Oy w g n cap xs) (hg : w.grownBy w' (some k)) (hne : g ≠ k) : Oy w' g n cap xs := h.to (hg.block g h.lt (fun e => by injection e with e; exact hne e))
theorem Oy.cell (h : Oy w g n cap xs) (i : Nat) (u : Value) (hu : w.cell? ⟨g, i, none⟩ = some u) : ∀ x, u ≠ .int .u64 x := by
  obtain ⟨cur, h, _, _, _, _, _, hk⟩ := h
  rw [cell_of_row w g i _ _ (0, 0) h] at hu
  exact hk u (by have := Array.mem_of_getElem? hu; simpa using this)
end
theorem kd_one (A : Option Addr) (m c : Nat) : Kd [.slice A m c] := fun u hu x => by
  simp at hu
  subst hu
  simp
theorem one_cell {w : World} {g0 : Nat} {A : Option Addr} {m c : Nat} (h0 : w.cell? ⟨g0, 0, none⟩ = some (.slice A m c)) :
    ∀ j u, [Value.slice A m c][j]? = some u → w.cell? ((⟨g0, 0, none⟩ : Addr).add j) = some u := by
  intro j u hj
  match j, hj with
  | 0, hj => simp at hj; subst hj; simpa [Addr.add] using h0
theorem kd_zeroR (m : Nat) : Kd (Builtin.zeroCells #[Value.slice none 0 0] m).toList := by
  intro u hu x
  simp only [Builtin.zeroCells, Array.toList_map, List.mem_map] at hu
  obtain ⟨i, _, rfl⟩ := hu
  simp [Nat.mod_one]
theorem run_pushN0 (w : World) (ty : TypeId) {g0 : Nat} {A : Option Addr} {m c : Nat} (h0 : w.cell? ⟨g0, 0, none⟩ = some (.slice A m c)) :
    ∃ cap w', (Builtin.append_ #[35, 35] ty #[.slice none 0 0, .slice (some ⟨g0, 0, none⟩) 1 1]).run Tryz.prog w = .ok (.slice (some ⟨w.heap.size, 0, none⟩) 1 cap) w' ∧ Oy w' w.heap.size 1 cap [.slice A m c] ∧ Below w.heap.size w w' := by
  obtain ⟨i0, hi, hz0, hz1, hz2⟩ := info_parts Tryz.infoR
  have hr := run_append_nil (P := Tryz.prog) w 35 ty 22 i0 _ Tryz.underlying35 hi hz0 ⟨g0, 0, none⟩ 1 1 [.slice A m c] (by rw [hz1]; rfl) (one_cell h0) (by omega) (by omega) (by rw [hz2]; omega)
  have hge := grownCap_ge w 1 0 22
  refine ⟨_, _, hr, ⟨_, heap_alloc_new w.drew _, hge, grownCap_le_maxLen w 1 0 _ (by unfold maxLen; omega), ?_, ?_, rfl, ?_⟩, (below_drew (Below.refl w.heap.size w)).alloc (Nat.le_refl _) _⟩
  · simp only [Array.size_append, List.size_toArray, size_zeroCells]
    simp [Value.cells]
    omega
  · simp
  · rw [Array.toList_append]
    exact kd_app (kd_one A m c) (kd_zeroR _)
theorem run_pushN (w : World) (ty : TypeId) {g n cap : Nat} {xs : List Value} (h : Oy w g n cap xs) (hn : n ≤ 1000) {g0 : Nat} {A : Option Addr} {m c : Nat} (h0 : w.cell? ⟨g0, 0, none⟩ = some (.slice A m c)) :
    ∃ g' cap' w', (Builtin.append_ #[35, 35] ty #[.slice (some ⟨g, 0, none⟩) n cap, .slice (some ⟨g0, 0, none⟩) 1 1]).run Tryz.prog w = .ok (.slice (some ⟨g', 0, none⟩) (n + 1) cap') w' ∧ Oy w' g' (n + 1) cap' (xs ++ [.slice A m c]) ∧ w.grownBy w' (some g) ∧ (g' = g ∨ g' = w.heap.size) := by
  obtain ⟨i0, hi, hz0, hz1, hz2⟩ := info_parts Tryz.infoR
  obtain ⟨cur, hh, hnc, hcm, hcs, htk, hxl, hk⟩ := h
  by_cases hroom : n + 1 ≤ cap
  · have hr := run_append_room (P := Tryz.prog) w 35 ty 22 i0 Tryz.underlying35 hi g n cap cur hh ⟨g0, 0, none⟩ 1 1 [.slice A m c] (by rw [hz1]; rfl) (one_cell h0) (fun u hu => by simp at hu; subst hu; rfl) hroom (by rw [hz1, hcs]; simp; omega)
    simp only [hz1, Nat.mul_one] at hr
    refine ⟨g, cap, _, hr, ⟨_, setRow_heap w g cur _ _ _ hh, hroom, hcm, ?_, ?_, by simp [hxl], ?_⟩, ⟨rfl, rfl, rfl, by simp [World.setRow], fun k _ hk => setRow_other w g k _ (fun e => hk (by rw [e]))⟩, .inl rfl⟩
    · simp [hcs]
      omega
    · rw [htk, show n + 1 = (xs ++ [Value.slice A m c]).length by simp [hxl]]
      exact List.take_left
    · refine kd_app (kd_app ?_ (kd_one A m c)) ?_
      · exact fun u hu x => hk u (List.mem_of_mem_take hu) x
      · exact fun u hu x => hk u (List.mem_of_mem_drop hu) x
  · have hxk : Kd xs := fun u hu x => hk u (List.mem_of_mem_take (by rw [htk]; exact hu)) x
    have hr := run_append_grow (P := Tryz.prog) w 35 ty 22 i0 _ Tryz.underlying35 hi hz0 ⟨g, 0, none⟩ n cap xs (by rw [hz1, Nat.mul_one]; exact hxl) (fun j u hj => by
        have hjl : j < xs.length := (List.getElem?_eq_some_iff.1 hj).1
        have hcj : w.cell? ⟨g, j, none⟩ = some u := by
          rw [cell_of_row w g j _ _ (0, 0) hh, ← hj, ← htk, List.getElem?_take_of_lt (by omega)]
          simp
        unfold Addr.add
        by_cases hj0 : j = 0
        · subst hj0; simpa using hcj
        · simpa [hj0] using hcj) ⟨g0, 0, none⟩ 1 1 [.slice A m c] (by rw [hz1]; rfl) (one_cell h0) (by omega) (by omega) (growslice_fits (by omega) (by rw [hz2]; omega))
    have hge := grownCap_ge w (n + 1) cap 22
    refine ⟨_, _, _, hr, ⟨_, heap_alloc_new w.drew _, hge, grownCap_le_maxLen w (n + 1) cap _ (by unfold maxLen; omega), ?_, ?_, by simp [hxl], ?_⟩, ⟨rfl, rfl, rfl, by simp, fun k hk _ => heap_alloc_old w.drew _ hk⟩, .inr rfl⟩
    · simp only [Array.size_append, List.size_toArray, size_zeroCells]
      simp [Value.cells, hxl]
      omega
    · simp only [Array.toList_append, List.append_assoc]
      rw [← List.append_assoc, show n + 1 = (xs ++ [Value.slice A m c]).length by simp [hxl]]
      exact List.take_left
    · simp only [Array.toList_append]
      exact kd_app (kd_app hxk (kd_one A m c)) (kd_zeroR _)
/-- The value s is a slice of these slices: nil for none, else in a block of its own from B on. -/
def Gm (w : World) (B : Nat) (s : Value) (cs : List Value) : Prop :=
  (s = .slice none 0 0 ∧ cs = []) ∨ ∃ g cap, s = .slice (some ⟨g, 0, none⟩) cs.length cap ∧ B ≤ g ∧ Oy w g cs.length cap cs
section
variable {w w' : World} {B : Nat} {s s' t : Value} {cs : List Value}
theorem Gm.nil (w : World) (B : Nat) : Gm w B (.slice none 0 0) [] := .inl ⟨rfl, rfl⟩
theorem Gm.keep (h : Gm w B s cs) (hb : Below w.heap.size w w') : Gm w' B s cs := by
  rcases h with h | ⟨g, cap, h1, h2, h3⟩
  · exact .inl h
  · exact .inr ⟨g, cap, h1, h2, h3.keep hb⟩
instance Gm.mv {v w : World} : Mv (Gm v B s cs) v w (Gm w B s cs) := ⟨fun h hb => Gm.keep h hb⟩
theorem Gm.lt (h : Gm w B s cs) {k : Nat} (hk : s.ownBlock = some k) : B ≤ k ∧ k < w.heap.size := by
  rcases h with ⟨rfl, _⟩ | ⟨g, cap, rfl, h2, h3⟩
  · simp [Value.ownBlock] at hk
  · simp [Value.ownBlock] at hk
    subst hk
    exact ⟨h2, h3.lt⟩
theorem Gm.ne (h : Gm w B s cs) {k : Nat} (hk : k < B ∨ w.heap.size ≤ k) : s.ownBlock ≠ some k := fun e => by
  have := h.lt e
  omega
theorem Gm.sto {g : Nat} (h : Gm w B s cs) (hne : s.ownBlock ≠ some g) (hs : Sto w g w') : Gm w' B s cs := by
  rcases h with h | ⟨k, cap, rfl, h2, h3⟩
  · exact .inl h
  · exact .inr ⟨k, cap, rfl, h2, h3.to (hs.block _ (fun e => hne (by rw [e]; rfl)))⟩
/-- A block that no limb lies in may be turned: the limbs stay. -/
theorem Rd.byY {g n cap m c : Nat} {xs : List Value} {A : Option Addr} {l : List Int} (z : Rd w w.heap.size A m c l) (h : Oy w g n cap xs) (hg : w.grownBy w' (some g)) : Rd w' w'.heap.size A m c l := by
  refine ⟨z.1, z.2.1, z.2.2.1, z.2.2.2.1, fun hn => ?_⟩
  obtain ⟨d, off, e, hd, hc⟩ := z.at_ hn
  have hne : d ≠ g := fun e2 => by
    subst e2
    have h0 := hc 0 (by have := z.len; omega)
    exact h.cell _ _ h0 _ rfl
  refine ⟨d, off, e, Nat.lt_of_lt_of_le hd hg.size, fun k hk => ?_⟩
  rw [← hc k hk]
  exact World.cell?_of_block (hg.block d hd (fun e => by injection e with e; exact hne e))
/-- What an append of the slice u onto s has made. -/
def Pm (V : World) (B : Nat) (s : Value) (cs : List Value) (u : Value) (s' : Value) (w' : World) : Prop := Gm w' B s' (cs ++ [u]) ∧ Gr s V w' ∧ Nw V s s'
theorem Gr.belowM {A : Nat} {w0 : World} (hb : Below A w0 w) (hs : A ≤ w.heap.size) (h : Gm w B s cs) (hg : Gr s w w') (hB : A ≤ B) : Below A w0 w' :=
  ⟨hg.grown.os.trans hb.os, hg.grown.tape.trans hb.tape, hg.grown.output.trans hb.output, Nat.le_trans hb.size hg.grown.size, fun k hk => (hg.at_ (Nat.lt_of_lt_of_le hk hs) (h.ne (.inl (by omega)))).trans (hb.block k hk)⟩
end
theorem gm_new {v : World} {B g : Nat} (x : v.heap[g]? = some (.cells #[] 22 (0, 0))) (hB : B ≤ g) : Gm v B (.slice (some ⟨g, 0, none⟩) 0 0) [] :=
  .inr ⟨_, 0, rfl, hB, ⟨#[], x, Nat.le_refl _, by unfold maxLen; omega, rfl, rfl, rfl, fun u hu => by cases hu⟩⟩
theorem run_pushM (V : World) (ty : TypeId) {B m c : Nat} {s : Value} {cs : List Value} {A : Option Addr} (h : Gm V B s cs) (hn : cs.length ≤ 1000) (hB : B ≤ V.heap.size) :
    ∃ s' w', (Builtin.append_ #[35, 35] ty #[s, .slice (some ⟨V.heap.size, 0, none⟩) 1 1]).run Tryz.prog (V.alloc (.cells #[.slice A m c] 22)) = .ok s' w' ∧ Pm V B s cs (.slice A m c) s' w' := by
  have hx : Vc (V.alloc (.cells #[.slice A m c] 22)) V.heap.size 0 (.slice A m c) := Vc.of (heap_alloc_new V _)
  have hsz : (V.alloc (.cells #[.slice A m c] 22)).heap.size = V.heap.size + 1 := by simp
  rcases h with ⟨rfl, rfl⟩ | ⟨g, cap, rfl, hg, ho⟩
  · obtain ⟨cap, w', hr, h2, h3⟩ := run_pushN0 (V.alloc (.cells #[.slice A m c] 22)) ty hx.al
    have hb := bthen (below_alloc V _) h3
    rw [hsz] at h2 hr
    exact ⟨_, _, hr, .inr ⟨_, cap, rfl, by omega, h2⟩, ⟨⟨hb.os, hb.tape, hb.output, hb.size, fun k hk _ => hb.block k hk⟩, fun _ _ _ _ h => h.go hb⟩, .inr ⟨V.heap.size + 1, by omega, rfl⟩⟩
  · obtain ⟨g', cap', w', hr, h2, h3, h4⟩ := run_pushN (V.alloc (.cells #[.slice A m c] 22)) ty (ho.alloc _) hn hx.al
    have hG : Gr (.slice (some ⟨g, 0, none⟩) cs.length cap) (V.alloc (.cells #[.slice A m c] 22)) w' := ⟨h3, fun _ _ _ _ h => h.byY (ho.alloc _) h3⟩
    have e : (cs ++ [Value.slice A m c]).length = cs.length + 1 := by simp
    refine ⟨_, _, hr, .inr ⟨g', cap', by rw [e], ?_, by rw [e]; exact h2⟩, hG.alloc, ?_⟩
    · rcases h4 with rfl | rfl
      · exact hg
      · omega
    · rcases h4 with rfl | rfl
      · exact .inl rfl
      · exact .inr ⟨_, Nat.le_trans (Nat.le_succ _) (Nat.le_of_eq hsz.symm), rfl⟩
theorem wpo_pushM {V : World} {o : Oper} {a : Act} {K : Act → World → Prop} {Q : Exit → Act → World → Prop} (s x : Operand)
    (hop : o.op = .call { callee := .builtin .append, args := #[s, x], argTypes := #[35, 35] }) {v : Value} (hs : a.eval s = v)
    {B m c : Nat} {cs : List Value} {A : Option Addr} (h : Gm V B v cs) (hn : cs.length ≤ 1000) (hB : B ≤ V.heap.size) (hx : a.eval x = .slice (some ⟨V.heap.size, 0, none⟩) 1 1)
    (hK : ∀ s' w', Pm V B v cs (.slice A m c) s' w' → K (a.put o.dst s') w') : o.wp Tryz.prog a (V.alloc (.cells #[.slice A m c] 22)) K Q := by
  obtain ⟨s', w', hr, h2⟩ := run_pushM (A := A) (m := m) (c := c) V o.type h hn hB
  unfold Oper.wp execOp
  simp only [hop, resolve, invoke, builtin, Sem.run_bind, Sem.run_pure, Result.andThen_ok, List.map_toArray, List.map_cons, List.map_nil, hs, hx, hr]
  exact hK _ _ h2
theorem step_pushM {V : World} {ops : Array Oper} {o : Oper} {a : Act} {K : Act → World → Prop} {Q : Exit → Act → World → Prop} {E : Prop} (hgd : o.guard = none) (s x : Operand)
    (hop : o.op = .call { callee := .builtin .append, args := #[s, x], argTypes := #[35, 35] }) {v : Value} (hs : a.eval s = v)
    {B m c : Nat} {cs : List Value} {A : Option Addr} (h : Gm V B v cs) (hn : cs.length ≤ 1000) (hB : B ≤ V.heap.size) (hx : a.eval x = .slice (some ⟨V.heap.size, 0, none⟩) 1 1)
    (hK : ∀ s' w', Pm V B v cs (.slice A m c) s' w' → K (a.put o.dst s') w') :
    if Region.wanted o (yielded ops a.tmps) = true then Oper.wp Tryz.prog o a (V.alloc (.cells #[.slice A m c] 22)) K Q else E := by
  rw [if_pos (by simp [Region.wanted, hgd])]
  exact wpo_pushM s x hop hs h hn hB hx hK
theorem wp_pushM {V : World} {ops : Array Oper} {rest : List Oper} {o : Oper} {a : Act} {Q : Exit → Act → World → Prop} (hgd : o.guard = none) (s x : Operand)
    (hop : o.op = .call { callee := .builtin .append, args := #[s, x], argTypes := #[35, 35] }) {v : Value} (hs : a.eval s = v)
    {B m c : Nat} {cs : List Value} {A : Option Addr} (h : Gm V B v cs) (hn : cs.length ≤ 1000) (hB : B ≤ V.heap.size) (hx : a.eval x = .slice (some ⟨V.heap.size, 0, none⟩) 1 1)
    (hK : ∀ s' w', Pm V B v cs (.slice A m c) s' w' → wpList Tryz.prog ops Q rest (a.put o.dst s') w') : wpList Tryz.prog ops Q (o :: rest) a (V.alloc (.cells #[.slice A m c] 22)) :=
  wpList_plain hgd fun K hK2 => wpo_pushM s x hop hs h hn hB hx fun s' w' h2 => hK2 _ _ (hK s' w' h2)
end Go.Proofs.YtbpamkpclofnbaaGreat
namespace Go.Proofs.YtbpamkpclofnbaaGreat
open Go.RowKit
set_option linter.unusedVariables false
set_option maxRecDepth 100000

/-- Block g begins with the integers l, as they are read. -/
def Pz (w : World) (g : Nat) (l : List Int) (J : Nat) : Prop :=
  ∃ cur : Array Value, w.heap[g]? = some (.cells cur 30 (0, 0)) ∧ l.length * 2 ≤ cur.size ∧ l.length ≤ 100000 ∧ Kd cur.toList ∧
    ∀ k (hk : k < l.length), ∃ b A n c, cur[k * 2]? = some (.bool b) ∧ cur[k * 2 + 1]? = some (.slice A n c) ∧ Zr w b A n c l[k] J
section
variable {w v W w' : World} {g n c J K B : Nat} {b : Bool} {A : Option Addr} {X : Int} {l L : List Int} {P : Nat → Prop}
theorem Pw.pz (h : Pw w g L J) : Pz w g L J := by
  obtain ⟨cur, h, h1, h2, h3, h4⟩ := h
  refine ⟨cur, h, Nat.le_of_eq h1.symm, h2, h3, fun k hk => ?_⟩
  obtain ⟨A, n, c, a1, a2, a3⟩ := h4 k hk
  exact ⟨_, A, n, c, a1, a2, a3.zr⟩
theorem Pz.lt (h : Pz w g L J) : g < w.heap.size := by
  obtain ⟨cur, h, _⟩ := h
  exact (Array.getElem?_eq_some_iff.1 h).1
theorem Pz.len (h : Pz w g L J) : L.length ≤ 100000 := by
  obtain ⟨cur, h, h1, h2, _⟩ := h
  exact h2
theorem Pz.kto (h : Pz w g L J) (hK : J ≤ K) : Pz w g L K := by
  obtain ⟨cur, h, h1, h2, h3, h4⟩ := h
  refine ⟨cur, h, h1, h2, h3, fun k hk => ?_⟩
  obtain ⟨b, A, n, c, a1, a2, a3⟩ := h4 k hk
  exact ⟨b, A, n, c, a1, a2, a3.kto hK⟩
theorem Pz.keep (h : Pz w g L J) (hb : Below w.heap.size w w') : Pz w' g L J := by
  have hl := h.lt
  obtain ⟨cur, h, h1, h2, h3, h4⟩ := h
  refine ⟨cur, (hb.block g hl).trans h, h1, h2, h3, fun k hk => ?_⟩
  obtain ⟨b, A, n, c, a1, a2, a3⟩ := h4 k hk
  exact ⟨b, A, n, c, a1, a2, a3.keep hb⟩
theorem Pz.nl (h : Pz w g L J) : Nl w g := by
  obtain ⟨cur, h, h1, h2, h3, h4⟩ := h
  exact nl_of h fun i y e => h3 _ (by have := Array.mem_of_getElem? e; simpa using this) y rfl
theorem Pz.sto {h : Nat} (p : Pz W h L J) (hh : h ≠ g) (s : Sto W g v) : Pz v h L J := by
  obtain ⟨cur, h, h1, h2, h3, h4⟩ := p
  refine ⟨cur, (s.block _ hh).trans h, h1, h2, h3, fun k hk => ?_⟩
  obtain ⟨b, A, n, c, a1, a2, a3⟩ := h4 k hk
  exact ⟨b, A, n, c, a1, a2, Ms.ms (g := g) s trivial a3⟩
theorem Pz.fr (h : Pz w g L J) (i : Nat) : w.frozen? ⟨g, i, none⟩ = false := by
  obtain ⟨cur, h, _⟩ := h
  simp [World.frozen?, h]
theorem Pz.ec (h : Pz w g L J) {k : Nat} (hk : k < L.length) : ∃ b A n c, Ec w g (k * 2) b A n c ∧ Zr w b A n c L[k] J := by
  have hl := h.lt
  obtain ⟨cur, h, h1, h2, h3, h4⟩ := h
  obtain ⟨b, A, n, c, a1, a2, a3⟩ := h4 k hk
  refine ⟨b, A, n, c, ⟨hl, ?_, ?_⟩, a3⟩
  · rw [cell_of_row w g _ _ _ (0, 0) h]; exact a1
  · rw [cell_of_row w g _ _ _ (0, 0) h]; exact a2
/-- An integer is laid into a block. -/
theorem Pz.set (h : Pz W g L J) {k : Nat} (hk : k < L.length) (z : Zr W b A n c X J) :
    Sto W g ((W.setCell ⟨g, k * 2, none⟩ (.bool b)).setCell ⟨g, k * 2 + 1, none⟩ (.slice A n c)) ∧ Pz ((W.setCell ⟨g, k * 2, none⟩ (.bool b)).setCell ⟨g, k * 2 + 1, none⟩ (.slice A n c)) g (L.set k X) J := by
  have N := h.nl
  have s : Sto W g ((W.setCell ⟨g, k * 2, none⟩ (.bool b)).setCell ⟨g, k * 2 + 1, none⟩ (.slice A n c)) := ((Sto.refl W g).set N).set N
  refine ⟨s, ?_⟩
  obtain ⟨cur, h, h1, h2, h3, h4⟩ := h
  refine ⟨(cur.setIfInBounds (k * 2) (.bool b)).setIfInBounds (k * 2 + 1) (.slice A n c), ?_, by simp; exact h1, by simp; exact h2, kd_set (kd_set h3 (by simp)) (by simp), fun i hi => ?_⟩
  · simp [World.setCell, Array.getElem?_modify, h]
  · have hi2 : i < L.length := by simpa using hi
    obtain ⟨b', A', n', c', a1, a2, a3⟩ := h4 i hi2
    by_cases hik : i = k
    · subst hik
      refine ⟨b, A, n, c, ?_, ?_, ?_⟩
      · rw [Array.getElem?_setIfInBounds, if_neg (by omega), Array.getElem?_setIfInBounds, if_pos rfl, if_pos (by omega)]
      · rw [Array.getElem?_setIfInBounds, if_pos rfl, if_pos (by simp; omega)]
      · rw [List.getElem_set_self]; exact Ms.ms (g := g) s trivial z
    · refine ⟨b', A', n', c', ?_, ?_, ?_⟩
      · rw [Array.getElem?_setIfInBounds, if_neg (by omega), Array.getElem?_setIfInBounds, if_neg (by omega)]; exact a1
      · rw [Array.getElem?_setIfInBounds, if_neg (by omega), Array.getElem?_setIfInBounds, if_neg (by omega)]; exact a2
      · rw [List.getElem_set_ne (by omega)]; exact Ms.ms (g := g) s trivial a3
theorem Pz.rd (h : Pz w g L J) (hB : g < B) {o m c : Nat} (hm : o + m ≤ L.length) (hc : m ≤ c) : Pd w B (some ⟨g, o * 2, none⟩) m c ((L.drop o).take m) J := by
  have h0 := h.len
  refine ⟨by simp; omega, hc, by omega, fun hn => ⟨g, o * 2, rfl, hB, fun k hk => ?_⟩⟩
  rw [List.length_take, List.length_drop] at hk
  obtain ⟨b, A, n, c, e, z⟩ := h.ec (k := o + k) (by omega)
  rw [List.getElem_take, List.getElem_drop]
  have a1 := e.c0; have a2 := e.c1
  rw [Nat.add_mul] at a1 a2
  exact ⟨b, A, n, c, a1, a2, z⟩
instance : Mv (Pz W g L J) W v (Pz v g L J) := ⟨fun x y => x.keep y⟩
instance {h : Nat} : Ms (Pz W h L J) W v g (h ≠ g) (Pz v h L J) := ⟨fun s hg p => p.sto hg s⟩
end
/-- Block g holds just these numbers. -/
def Bi (w : World) (g : Nat) (l : List Int) : Prop :=
  ∃ cur : Array Value, w.heap[g]? = some (.cells cur 3 (0, 0)) ∧ cur.toList = l.map (.int .i64) ∧ l.length ≤ 100000
section
variable {w v W : World} {g k : Nat} {l : List Int} {x : Int}
theorem Bi.lt (h : Bi w g l) : g < w.heap.size := by
  obtain ⟨cur, h, _⟩ := h
  exact (Array.getElem?_eq_some_iff.1 h).1
theorem Bi.keep (h : Bi w g l) (hb : Below w.heap.size w v) : Bi v g l := by
  have hl := h.lt
  obtain ⟨cur, h, h2⟩ := h
  exact ⟨cur, (hb.block g hl).trans h, h2⟩
theorem Bi.sto {d : Nat} (h : Bi W d l) (hd : d ≠ g) (s : Sto W g v) : Bi v d l := by
  obtain ⟨cur, h, h2⟩ := h
  exact ⟨cur, (s.block _ hd).trans h, h2⟩
theorem Bi.nl (h : Bi w g l) : Nl w g := by
  obtain ⟨cur, h, h1, h2⟩ := h
  refine nl_of h fun i y e => ?_
  have hm : Value.int .u64 y ∈ cur.toList := by have := Array.mem_of_getElem? e; simpa using this
  rw [h1] at hm
  simp at hm
theorem Bi.fr (h : Bi w g l) (i : Nat) : w.frozen? ⟨g, i, none⟩ = false := by
  obtain ⟨cur, h, _⟩ := h
  simp [World.frozen?, h]
theorem Bi.at_ (h : Bi w g l) (hk : k < l.length) : Vc w g k (.int .i64 l[k]) := by
  have hl := h.lt
  obtain ⟨cur, h, h1, h2⟩ := h
  refine ⟨hl, ?_⟩
  rw [cell_of_row w g k _ _ (0, 0) h, ← Array.getElem?_toList, h1, List.getElem?_map, List.getElem?_eq_getElem hk]
  rfl
theorem Bi.set (h : Bi W g l) (hk : k < l.length) : Sto W g (W.setCell ⟨g, k, none⟩ (.int .i64 x)) ∧ Bi (W.setCell ⟨g, k, none⟩ (.int .i64 x)) g (l.set k x) := by
  have N := h.nl
  have s : Sto W g (W.setCell ⟨g, k, none⟩ (.int .i64 x)) := (Sto.refl W g).set N
  refine ⟨s, ?_⟩
  obtain ⟨cur, h, h1, h2⟩ := h
  refine ⟨cur.setIfInBounds k (.int .i64 x), ?_, ?_, by simpa using h2⟩
  · simp [World.setCell, Array.getElem?_modify, h]
  · rw [Array.toList_setIfInBounds, h1, List.map_set]
instance : Mv (Bi W g l) W v (Bi v g l) := ⟨fun x y => x.keep y⟩
instance {d : Nat} : Ms (Bi W d l) W v g (d ≠ g) (Bi v d l) := ⟨fun s hd x => x.sto hd s⟩
end
/-- The elimination's variable: its rows, the pivots' rows, the steps, the last pivot, the sign. -/
def Eb (w : World) (g : Nat) (R P : Option Addr) (r cr m cm : Nat) (s : Int) (b : Bool) (A : Option Addr) (n c : Nat) (o : Bool) : Prop :=
  w.heap[g]? = some (.cells #[.slice R r cr, .slice P m cm, .int .i64 s, .bool b, .slice A n c, .bool o] 79 (0, 0))
section
variable {w v W : World} {g d r cr m cm n c : Nat} {R P A R' A' : Option Addr} {s s' : Int} {b o b' o' : Bool} {r' cr' n' c' : Nat}
theorem Eb.lt (h : Eb w g R P r cr m cm s b A n c o) : g < w.heap.size := (Array.getElem?_eq_some_iff.1 h).1
theorem Eb.c0 (h : Eb w g R P r cr m cm s b A n c o) : w.cell? ⟨g, 0, none⟩ = some (.slice R r cr) := by rw [cell_of_row w g 0 _ _ (0, 0) h]; rfl
theorem Eb.c1 (h : Eb w g R P r cr m cm s b A n c o) : w.cell? ⟨g, 1, none⟩ = some (.slice P m cm) := by rw [cell_of_row w g 1 _ _ (0, 0) h]; rfl
theorem Eb.c2 (h : Eb w g R P r cr m cm s b A n c o) : w.cell? ⟨g, 2, none⟩ = some (.int .i64 s) := by rw [cell_of_row w g 2 _ _ (0, 0) h]; rfl
theorem Eb.c3 (h : Eb w g R P r cr m cm s b A n c o) : w.cell? ⟨g, 3, none⟩ = some (.bool b) := by rw [cell_of_row w g 3 _ _ (0, 0) h]; rfl
theorem Eb.c4 (h : Eb w g R P r cr m cm s b A n c o) : w.cell? ⟨g, 4, none⟩ = some (.slice A n c) := by rw [cell_of_row w g 4 _ _ (0, 0) h]; rfl
theorem Eb.c5 (h : Eb w g R P r cr m cm s b A n c o) : w.cell? ⟨g, 5, none⟩ = some (.bool o) := by rw [cell_of_row w g 5 _ _ (0, 0) h]; rfl
theorem Eb.fr (h : Eb w g R P r cr m cm s b A n c o) (i : Nat) : w.frozen? ⟨g, i, none⟩ = false := by
  have h := h
  unfold Eb at h
  simp [World.frozen?, h]
theorem Eb.al (h : Eb w g R P r cr m cm s b A n c o) : w.cell? ⟨g, 0, none⟩ = some (.slice R r cr) ∧ w.cell? ⟨g, 1, none⟩ = some (.slice P m cm) ∧ w.cell? ⟨g, 2, none⟩ = some (.int .i64 s) ∧ w.cell? ⟨g, 3, none⟩ = some (.bool b) ∧ w.cell? ⟨g, 4, none⟩ = some (.slice A n c) ∧ w.cell? ⟨g, 5, none⟩ = some (.bool o) :=
  ⟨h.c0, h.c1, h.c2, h.c3, h.c4, h.c5⟩
theorem Eb.keep (h : Eb w g R P r cr m cm s b A n c o) (hb : Below w.heap.size w v) : Eb v g R P r cr m cm s b A n c o := (hb.block g h.lt).trans h
theorem Eb.sto (h : Eb W g R P r cr m cm s b A n c o) (hd : g ≠ d) (st : Sto W d v) : Eb v g R P r cr m cm s b A n c o := (st.block _ hd).trans h
theorem Eb.nl (h : Eb w g R P r cr m cm s b A n c o) : Nl w g := nl_of h fun i y e => by
  match i with
  | 0 | 1 | 2 | 3 | 4 | 5 => simp at e
  | k + 6 => simp at e
instance : Mv (Eb W g R P r cr m cm s b A n c o) W v (Eb v g R P r cr m cm s b A n c o) := ⟨fun x y => x.keep y⟩
instance : Ms (Eb W g R P r cr m cm s b A n c o) W v d (g ≠ d) (Eb v g R P r cr m cm s b A n c o) := ⟨fun st hd x => x.sto hd st⟩
theorem Eb.steps (h : Eb W g R P r cr m cm s b A n c o) : Sto W g (W.setCell ⟨g, 2, none⟩ (.int .i64 s')) ∧ Eb (W.setCell ⟨g, 2, none⟩ (.int .i64 s')) g R P r cr m cm s' b A n c o := by
  refine ⟨(Sto.refl W g).set h.nl, ?_⟩
  unfold Eb at h ⊢
  simp [World.setCell, Array.getElem?_modify, h]
theorem Eb.odd (h : Eb W g R P r cr m cm s b A n c o) : Sto W g (W.setCell ⟨g, 5, none⟩ (.bool o')) ∧ Eb (W.setCell ⟨g, 5, none⟩ (.bool o')) g R P r cr m cm s b A n c o' := by
  refine ⟨(Sto.refl W g).set h.nl, ?_⟩
  unfold Eb at h ⊢
  simp [World.setCell, Array.getElem?_modify, h]
theorem Eb.rows (h : Eb W g R P r cr m cm s b A n c o) : Sto W g (W.setCell ⟨g, 0, none⟩ (.slice R' r' cr')) ∧ Eb (W.setCell ⟨g, 0, none⟩ (.slice R' r' cr')) g R' P r' cr' m cm s b A n c o := by
  refine ⟨(Sto.refl W g).set h.nl, ?_⟩
  unfold Eb at h ⊢
  simp [World.setCell, Array.getElem?_modify, h]
theorem Eb.pivot (h : Eb W g R P r cr m cm s b A n c o) : Sto W g ((W.setCell ⟨g, 3, none⟩ (.bool b')).setCell ⟨g, 4, none⟩ (.slice A' n' c')) ∧ Eb ((W.setCell ⟨g, 3, none⟩ (.bool b')).setCell ⟨g, 4, none⟩ (.slice A' n' c')) g R P r cr m cm s b' A' n' c' o := by
  refine ⟨((Sto.refl W g).set h.nl).set h.nl, ?_⟩
  unfold Eb at h ⊢
  simp [World.setCell, Array.getElem?_modify, h]
end
end Go.Proofs.YtbpamkpclofnbaaGreat
namespace Go.Proofs.YtbpamkpclofnbaaGreat
open Go.RowKit
set_option linter.unusedVariables false
set_option maxRecDepth 100000

theorem add_offN (d o j : Nat) : (⟨d, o, none⟩ : Addr).add j = ⟨d, o + j, none⟩ := by unfold Addr.add; split <;> simp_all
theorem Tryz.infoN : (Tryz.prog.info? 3).map (fun i => (i.zero, i.size, i.bytes)) = some (some (.int .i64 0), 1, 8) := by kernel_rfl
/-- make of a slice of numbers. -/
theorem wp_makeN {w : World} {ops : Array Oper} {rest : List Oper} {o : Oper} {a : Act} {Q : Exit → Act → World → Prop} (hg : o.guard = none) (l c : Operand) (hop : o.op = Op.makeSlice 77 l c)
    (n : Nat) (L C : Int) (hl : a.eval l = .int .i64 L) (hc : a.eval c = .int .i64 C) (hL : L = (n : Int)) (hC : C = (n : Int)) (hn : n ≤ 100000)
    (hK : ∀ w', Bi w' w.heap.size (List.replicate n 0) → Below w.heap.size w w' → wpList Tryz.prog ops Q rest (a.put o.dst (.slice (some ⟨w.heap.size, 0, none⟩) n n)) w') :
    wpList Tryz.prog ops Q (o :: rest) a w := by
  obtain ⟨i0, hi, hz0, hz1, hz2⟩ := info_parts Tryz.infoN
  refine wpList_make_full w hg l c 77 hop 0 3 i0 (.int .i64 0) 1 Tryz.underlying77 hi hz0 hz1 .i64 .i64 L C n hl hc hL hC (by rw [hz2]; omega) (by unfold maxLen; omega) (Nat.zero_le _) ?_
  intro w' hown hgrow
  refine hK w' ?_ ⟨hgrow.os, hgrow.tape, hgrow.output, hgrow.size, fun k hk => hgrow.block k hk (by simp)⟩
  obtain ⟨_, h2⟩ := hown
  rcases h2 with ⟨h, _⟩ | ⟨g, cap, cur, hv, _, hh, hnc, _, hcs, hxs⟩
  · cases h
  · injection hv with hv1 hv2 hv3
    injection hv1 with hv1
    injection hv1 with hv1
    subst hv1 hv3
    have e : cur = Builtin.zeroCells #[.int .i64 0] n := by
      rw [List.take_of_length_le (by simp; omega)] at hxs
      exact Array.toList_inj.1 hxs
    refine ⟨cur, hh, ?_, by simpa using hn⟩
    rw [e]
    apply List.ext_getElem
    · simp [Builtin.zeroCells]
    · intro i h1 h2
      simp [Builtin.zeroCells]
      rw [Nat.mod_one]; rfl
/-- copy within slices of numbers. -/
theorem run_copyN {W : World} {ty : TypeId} {g off dn dc g2 o2 sn sc q : Nat} {l l2 : List Int} (h : Bi W g l) (h2 : Bi W g2 l2) (hq : Nat.min sn dn = q) (hn : ((l2.drop o2).take q).length = q) (hf : off + q ≤ l.length) :
    ∃ w', (Builtin.copy_ #[77, 77] ty #[.slice (some ⟨g, off, none⟩) dn dc, .slice (some ⟨g2, o2, none⟩) sn sc]).run Tryz.prog W = .ok (goInt q) w' ∧ Sto W g w' ∧ Bi w' g (l.take off ++ (l2.drop o2).take q ++ l.drop (off + q)) := by
  obtain ⟨i0, hi, hz0, hz1, hz2⟩ := info_parts Tryz.infoN
  have N := h.nl
  obtain ⟨cur, hh, hc, hb⟩ := h
  have hcs : cur.size = l.length := by rw [← Array.length_toList, hc]; simp
  have hrun := run_copy_row (P := Tryz.prog) W 77 77 ty 3 g off dn dc ⟨g2, o2, none⟩ sn sc cur _ (((l2.drop o2).take q).map (Value.int .i64)) Tryz.underlying77 (by rw [hi]; simp [hz1]) hh (by rw [List.length_map, hn, hq]) (fun j v hj => by
      rw [add_offN]
      have hjl := (List.getElem?_eq_some_iff.1 hj).1
      rw [List.length_map, hn] at hjl
      rw [List.getElem?_map, List.getElem?_take_of_lt hjl, List.getElem?_drop] at hj
      obtain ⟨x, hx, rfl⟩ := Option.map_eq_some_iff.1 hj
      obtain ⟨hxl, hxe⟩ := List.getElem?_eq_some_iff.1 hx
      have := (h2.at_ hxl).al
      rw [hxe] at this
      exact this) (by rw [List.length_map, hn, hcs]; exact hf) (fun v hv => by obtain ⟨x, _, rfl⟩ := List.mem_map.1 hv; rfl)
  rw [List.length_map, hn] at hrun
  refine ⟨_, hrun, ⟨rfl, rfl, rfl, by simp [World.setRow], fun k hk => setRow_other W g k _ hk, fun e j x hx => ?_⟩, ⟨_, setRow_heap W g cur _ _ _ hh, ?_, ?_⟩⟩
  · by_cases eg : e = g
    · subst eg; exact absurd hx (N _ _)
    · exact World.cell?_of_block (setRow_other W g e _ eg)
  · simp [hc, List.map_take, List.map_drop]
  · simp at hn ⊢; omega
theorem wpo_copyN {W : World} {o : Oper} {a : Act} {K : Act → World → Prop} {Q : Exit → Act → World → Prop} (d s : Operand)
    (hop : o.op = .call { callee := .builtin .copy, args := #[d, s], argTypes := #[77, 77] }) {g off dn dc g2 o2 sn sc q : Nat} {dv sv : Value} (hd : a.eval d = dv) (hs : a.eval s = sv) (hd2 : dv = .slice (some ⟨g, off, none⟩) dn dc) (hs2 : sv = .slice (some ⟨g2, o2, none⟩) sn sc)
    {l l2 : List Int} (h : Bi W g l) (h2 : Bi W g2 l2) (hq : Nat.min sn dn = q) (hn : ((l2.drop o2).take q).length = q) (hf : off + q ≤ l.length)
    (hK : ∀ w', Sto W g w' → Bi w' g (l.take off ++ (l2.drop o2).take q ++ l.drop (off + q)) → K (a.put o.dst (.int .i64 (q : Int))) w') : o.wp Tryz.prog a W K Q := by
  subst hd2; subst hs2
  obtain ⟨w', hr, h3, h4⟩ := run_copyN (ty := o.type) (dc := dc) (sc := sc) h h2 hq hn hf
  unfold Oper.wp execOp
  simp only [hop, resolve, invoke, builtin, Sem.run_bind, Sem.run_pure, Result.andThen_ok, List.map_toArray, List.map_cons, List.map_nil, hd, hs, hr]
  exact hK _ h3 h4
theorem wp_copyN {W : World} {ops : Array Oper} {rest : List Oper} {o : Oper} {a : Act} {Q : Exit → Act → World → Prop} (hgd : o.guard = none) (d s : Operand)
    (hop : o.op = .call { callee := .builtin .copy, args := #[d, s], argTypes := #[77, 77] }) {g off dn dc g2 o2 sn sc q : Nat} {dv sv : Value} (hd : a.eval d = dv) (hs : a.eval s = sv) (hd2 : dv = .slice (some ⟨g, off, none⟩) dn dc) (hs2 : sv = .slice (some ⟨g2, o2, none⟩) sn sc)
    {l l2 : List Int} (h : Bi W g l) (h2 : Bi W g2 l2) (hq : Nat.min sn dn = q) (hn : ((l2.drop o2).take q).length = q) (hf : off + q ≤ l.length)
    (hK : ∀ w', Sto W g w' → Bi w' g (l.take off ++ (l2.drop o2).take q ++ l.drop (off + q)) → wpList Tryz.prog ops Q rest (a.put o.dst (.int .i64 (q : Int))) w') : wpList Tryz.prog ops Q (o :: rest) a W :=
  wpList_plain hgd fun K hK2 => wpo_copyN d s hop hd hs hd2 hs2 h h2 hq hn hf fun w' h3 h4 => hK2 _ _ (hK w' h3 h4)
end Go.Proofs.YtbpamkpclofnbaaGreat
namespace Go.Proofs.YtbpamkpclofnbaaGreat
open Go.RowKit
set_option linter.unusedVariables false
set_option maxRecDepth 100000
theorem Mbm_any {w : World} {n : Nat} (hn : n ≤ 100000) :
    Calls Tryz.prog 176 #[.int .u64 1, .int .u64 (n : Int)] w fun e w' => e = .returned (.tuple #[.int .u64 0, .int .u64 (n : Int)]) ∧ w' = w := by
  have m1 : bits .and .u64 1 4294967295 = 1 := by decide
  have m2 : bits .and .u64 (n : Int) 4294967295 = (n : Int) := by
    have h := bits_and_u64_nat n 4294967295 (by omega) (by omega)
    have e : n &&& 4294967295 = n % 4294967296 := Nat.and_two_pow_sub_one_eq_mod n 32
    rw [e, Nat.mod_eq_of_lt (by omega)] at h
    exact h
  have m3 : bits .and .u64 0 4294967295 = 0 := by decide
  have w1 : IntKind.u64.wrap (n : Int) = n := by rw [IntKind.wrap_u64]; omega
  have w0 : IntKind.u64.wrap 0 = 0 := by decide
  have d1 : (n : Int) / 4294967296 = 0 := by omega
  go_enter Tryz.func176, Tryz.ntmps176
  go_wp2
  go_ret2
  exact ⟨rfl, rfl⟩
end Go.Proofs.YtbpamkpclofnbaaGreat
namespace Go.Proofs.YtbpamkpclofnbaaGreat
open Go.RowKit
set_option linter.unusedVariables false
set_option maxRecDepth 100000

theorem rep_take {L : List Int} {k q : Nat} {X : Int} (h : L.take k = List.replicate k X) (hq : q ≤ k) : L.take q = List.replicate q X := by
  have : L.take q = (L.take k).take q := by rw [List.take_take, Nat.min_eq_left hq]
  rw [this, h, List.take_replicate, Nat.min_eq_left hq]
set_option maxHeartbeats 2000000 in
theorem Srepeat_any {w : World} {gx cx n : Nat} {X : Int} (x : Bi w gx [X]) (hn1 : 1 ≤ n) (hn : n ≤ 100000) :
    Calls Tryz.prog 166 #[.slice (some ⟨gx, 0, none⟩) 1 cx, .int .i64 (n : Int)] w fun e w' => ∃ g, e = .returned (.slice (some ⟨g, 0, none⟩) n n) ∧ w.heap.size ≤ g ∧ Bi w' g (List.replicate n X) ∧ Below w.heap.size w w' := by
  have hgx := x.lt
  have hw1 : IntKind.u64.wrap (n : Int) = n := by rw [IntKind.wrap_u64]; omega
  have hw2 : IntKind.i64.wrap (n : Int) = n := i64_keep (by omega) (by omega)
  have hlt : decide ((n : Int) < 0) = false := by simp
  have hq1 : Nat.min 1 n = 1 := by show min 1 n = 1; omega
  have hq2 : 0 + 1 ≤ (List.replicate n (0 : Int)).length := by simp; omega
  go_enter Tryz.func166, Tryz.ntmps166
  go_upto_region 7 with (first
    | (go_at_call 176; refine (Mbm_any hn).mono ?_; rintro e w9 ⟨rfl, hw9⟩; rw [hw9])
    | (at_make; refine wp_makeN rfl _ _ rfl n _ _ rfl rfl rfl rfl hn ?_; intro v1 p_g hb))
  go_wp2_with (first | (with_reducible refine wp_copyN (q := 1) rfl (.tmp 31) (.tmp 32) rfl rfl rfl rfl rfl p_g (x.keep hb) hq1 rfl hq2 ?_; intro v2 st p_g2))
  have hb2 : Below w.heap.size w v2 := ms1 st (Nat.le_refl _) hb
  have hr0 : ∃ L, Bi v2 w.heap.size L ∧ L.length = n ∧ L.take 1 = List.replicate 1 X := ⟨_, p_g2, by simp; omega, by simp⟩
  clear x st p_g p_g2 hb hq1 hq2 hw1 hw2 hlt
  go_loopw [8] (fun kv wr => ∃ k : Nat, 1 ≤ k ∧ k ≤ n ∧ kv = .int .i64 (k : Int) ∧ (∃ L, Bi wr w.heap.size L ∧ L.length = n ∧ L.take k = List.replicate k X) ∧ Below w.heap.size w wr) (fun kv _ => n - (intOf kv).toNat)
  case atStart => exact ⟨1, Nat.le_refl _, hn1, rfl, hr0, hb2⟩
  case round =>
    clear hr0 hb2
    obtain ⟨k, hk1, hk, rfl, ⟨L, p_g, hL, hT⟩, hb⟩ := hrel
    have HL := Lib.hid hL; have HT := Lib.hid hT
    clear hL hT
    rcases (show n = k ∨ k < n by omega) with hkn | hkn
    · subst hkn
      have hLe : L = List.replicate n X := by have := HT.out; rwa [List.take_of_length_le (by rw [HL.out]; exact Nat.le_refl _)] at this
      subst hLe
      go_wp2
      go_ret
      exact ⟨_, rfl, Nat.le_refl _, p_g, hb⟩
    · obtain ⟨q, hq⟩ : ∃ q, Nat.min k (n - k) = q := ⟨_, rfl⟩
      have hq1 : 1 ≤ q ∧ q ≤ k ∧ q ≤ n - k := by rw [← hq]; show 1 ≤ min k (n - k) ∧ min k (n - k) ≤ k ∧ min k (n - k) ≤ n - k; omega
      have hw : IntKind.i64.wrap ((k : Int) + (q : Int)) = (k : Int) + q := i64_keep (by omega) (by omega)
      have ha : ((⟨w.heap.size, 0, none⟩ : Addr).add k) = ⟨w.heap.size, k, none⟩ := by rw [add_offN]; simp
      have hs : ((n : Int) - (k : Int)).toNat = n - k := by omega
      have HQ := Lib.hid hq
      clear hq
      go_upto_region 9 with fail
      have p_d : Bi wr.drew w.heap.size L := p_g.keep (below_drew (Below.refl _ _))
      have hqn : ((L.drop 0).take q).length = q := by have := HL.out; simp; omega
      have hqf : k + q ≤ L.length := by have := HL.out; omega
      have hne : ¬ n = k := by omega
      have hL5 : (L.take k ++ (L.drop 0).take q ++ L.drop (k + q)).length = n := by have := HL.out; simp; omega
      have hT5 : (L.take k ++ (L.drop 0).take q ++ L.drop (k + q)).take (k + q) = List.replicate (k + q) X := by
        rw [HT.out, List.drop_zero, rep_take HT.out hq1.2.1, List.replicate_append_replicate]
        rw [List.take_append_of_le_length (by simp), List.take_of_length_le (by simp)]
      have HL5 := Lib.hid hL5; have HT5 := Lib.hid hT5; have HQN := Lib.hid hqn; have HQF := Lib.hid hqf
      clear hL5 hT5 hqn hqf
      refine wp_region_held_drew (S := fun w' => True) (by kernel_rfl) trivial (fun hHeld => ?_)
      refine wpAnyH_take (i := 0) (oi := ({ dst := some 38, op := Op.move (Operand.tmp 8), type := 3, pos := "slices.go:528", after := #[], guard := none } : Oper)) (v := ?_) rfl (by kernel_rfl) (by kernel_rfl) (by kernel_rfl) (fun _ _ _ h => h) (Or.inl ⟨by rfl, ?_⟩) (by assumption) ?_
      rotate_left
      · (intro w9 hSw; (try dsimp only at hSw); go_simp; all_goals with_reducible rfl)
      (try simp only [Act.put, List.setIfInBounds_toArray, List.set_cons_zero, List.set_cons_succ])
      refine wpAnyH_take (i := 1) (oi := ({ dst := some 39, op := Op.move (Operand.tmp 7), type := 77, pos := "slices.go:528", after := #[], guard := none } : Oper)) (v := ?_) rfl (by kernel_rfl) (by kernel_rfl) (by kernel_rfl) (fun _ _ _ h => h) (Or.inl ⟨by rfl, ?_⟩) (by assumption) ?_
      rotate_left
      · (intro w9 hSw; (try dsimp only at hSw); go_simp; all_goals with_reducible rfl)
      (try simp only [Act.put, List.setIfInBounds_toArray, List.set_cons_zero, List.set_cons_succ])
      refine wpAnyH_take (i := 2) (oi := ({ dst := some 40, op := Op.move (Operand.tmp 8), type := 3, pos := "slices.go:528", after := #[], guard := none } : Oper)) (v := ?_) rfl (by kernel_rfl) (by kernel_rfl) (by kernel_rfl) (fun _ _ _ h => h) (Or.inl ⟨by rfl, ?_⟩) (by assumption) ?_
      rotate_left
      · (intro w9 hSw; (try dsimp only at hSw); go_simp; all_goals with_reducible rfl)
      (try simp only [Act.put, List.setIfInBounds_toArray, List.set_cons_zero, List.set_cons_succ])
      refine wpAnyH_take (i := 3) (oi := ({ dst := some 41, op := Op.slice 77 (Operand.tmp 39) (some (Operand.tmp 40)) none none, type := 77, pos := "slices.go:528", after := #[{ on := 1, ground := Ground.data }, { on := 2, ground := Ground.data }], guard := none } : Oper)) (v := ?_) rfl (by kernel_rfl) (by kernel_rfl) (by kernel_rfl) (fun _ _ _ h => h) (Or.inl ⟨by rfl, ?_⟩) (by assumption) ?_
      rotate_left
      · (intro w9 hSw; (try dsimp only at hSw); go_simp; all_goals with_reducible rfl)
      (try simp only [Act.put, List.setIfInBounds_toArray, List.set_cons_zero, List.set_cons_succ])
      refine wpAnyH_take (i := 4) (oi := ({ dst := some 42, op := Op.move (Operand.tmp 7), type := 77, pos := "slices.go:528", after := #[], guard := none } : Oper)) (v := ?_) rfl (by kernel_rfl) (by kernel_rfl) (by kernel_rfl) (fun _ _ _ h => h) (Or.inl ⟨by rfl, ?_⟩) (by assumption) ?_
      rotate_left
      · (intro w9 hSw; (try dsimp only at hSw); go_simp; all_goals with_reducible rfl)
      (try simp only [Act.put, List.setIfInBounds_toArray, List.set_cons_zero, List.set_cons_succ])
      refine wpAnyH_take (i := 5) (oi := ({ dst := some 43, op := Op.move (Operand.tmp 8), type := 3, pos := "slices.go:528", after := #[], guard := none } : Oper)) (v := ?_) rfl (by kernel_rfl) (by kernel_rfl) (by kernel_rfl) (fun _ _ _ h => h) (Or.inl ⟨by rfl, ?_⟩) (by assumption) ?_
      rotate_left
      · (intro w9 hSw; (try dsimp only at hSw); go_simp; all_goals with_reducible rfl)
      (try simp only [Act.put, List.setIfInBounds_toArray, List.set_cons_zero, List.set_cons_succ])
      refine wpAnyH_take (i := 6) (oi := ({ dst := some 44, op := Op.slice 77 (Operand.tmp 42) none (some (Operand.tmp 43)) none, type := 77, pos := "slices.go:528", after := #[{ on := 4, ground := Ground.data }, { on := 5, ground := Ground.data }], guard := none } : Oper)) (v := ?_) rfl (by kernel_rfl) (by kernel_rfl) (by kernel_rfl) (fun _ _ _ h => h) (Or.inl ⟨by rfl, ?_⟩) (by assumption) ?_
      rotate_left
      · (intro w9 hSw; (try dsimp only at hSw); go_simp; all_goals with_reducible rfl)
      (try simp only [Act.put, List.setIfInBounds_toArray, List.set_cons_zero, List.set_cons_succ])
      refine wpAnyH_ready (rs := [7]) (by kernel_rfl) (by simp) ?_
      refine AllReadyH.cons (o := ({ dst := some 45, op := Op.call { callee := Callee.builtin Builtin.copy, args := #[Operand.tmp 41, Operand.tmp 44], argTypes := #[77, 77] }, type := 3, pos := "slices.go:528", after := #[{ on := 3, ground := Ground.data }, { on := 6, ground := Ground.data }], guard := none } : Oper)) rfl (fun K hK => ?_) AllReadyH.nil
      refine wpo_copyN (q := q) (.tmp 41) (.tmp 44) rfl (g := w.heap.size) (off := k) (dn := n - k) (dc := n - k) (g2 := w.heap.size) (o2 := 0) (sn := k) (sc := n) rfl rfl (by rfl) (by rfl) p_d p_d HQ.out HQN.out HQF.out ?_
      intro v5 st p5
      refine hK.out _ _ trivial (fun hHeld => ?_)
      clear hK K
      (try simp only [Act.put, List.setIfInBounds_toArray, List.set_cons_zero, List.set_cons_succ])
      refine wpAnyH_take (i := 8) (oi := ({ dst := some 46, op := Op.binOp BinOp.add 3 (Operand.tmp 38) (Operand.tmp 45) 3, type := 3, pos := "slices.go:528", after := #[{ on := 0, ground := Ground.data }, { on := 7, ground := Ground.data }], guard := none } : Oper)) (v := ?_) rfl (by kernel_rfl) (by kernel_rfl) (by kernel_rfl) (fun _ _ _ h => h) (Or.inl ⟨by rfl, ?_⟩) (by assumption) ?_
      rotate_left
      · (intro w9 hSw; (try dsimp only at hSw); go_simp; all_goals with_reducible rfl)
      (try simp only [Act.put, List.setIfInBounds_toArray, List.set_cons_zero, List.set_cons_succ])
      refine wpAnyH_ready (rs := [9]) (by kernel_rfl) (by simp) ?_
      refine AllReadyH.cons (o := ({ dst := some 8, op := Op.assign (Operand.tmp 46), type := 3, pos := "slices.go:528", after := #[{ on := 8, ground := Ground.data }, { on := 7, ground := Ground.chain }, { on := 0, ground := Ground.phase }, { on := 1, ground := Ground.phase }, { on := 2, ground := Ground.phase }, { on := 3, ground := Ground.phase }, { on := 4, ground := Ground.phase }, { on := 5, ground := Ground.phase }, { on := 6, ground := Ground.phase }, { on := 7, ground := Ground.phase }, { on := 8, ground := Ground.phase }], guard := none } : Oper)) rfl (fun K hK => ?_) AllReadyH.nil
      go_simp
      refine hK.out _ _ trivial (fun hHeld => ?_)
      clear hK K
      (try simp only [Act.put, List.setIfInBounds_toArray, List.set_cons_zero, List.set_cons_succ])
      refine wpAnyH_done (by kernel_rfl) ?_ _
      go_wp2_with fail
      have hb5 : Below w.heap.size w v5 := ms1 st (Nat.le_refl _) (hb.trans (below_drew (Below.refl _ _)))
      exact ⟨⟨k + q, by omega, by omega, by go_num, ⟨_, p5, HL5.out, HT5.out⟩, hb5⟩, by simp [intOf]; omega⟩
end Go.Proofs.YtbpamkpclofnbaaGreat
namespace Go.Proofs.YtbpamkpclofnbaaGreat
open Go.RowKit
open MP.Se (nf co)
set_option linter.unusedVariables false
set_option maxRecDepth 100000

/-- A slice of integers is handed back that is the polynomial s. -/
def OutS (w : World) (s : MP.Se) (K : Nat) (e : Ending) (w' : World) : Prop := ∃ L, MP.Se.Nm L ∧ co L = s ∧ OutP w L K e w'
theorem OutP.s {w w' : World} {L : List Int} {K : Nat} {e : Ending} (h : OutP w (nf L) K e w') : OutS w (co L) K e w' := ⟨nf L, MP.Se.nm_nf L, MP.Se.co_nf L, h⟩
/-- What the loops of Mul keep: the first list's beginning times the second one, and what has come of the next one. -/
def MuR (w : World) (P Q : List Int) (J J2 g : Nat) (A : Option Addr) (n c : Nat) (A2 : Option Addr) (n2 c2 i k : Nat) (wr : World) : Prop :=
  ∃ L : List Int, Pw wr g L (J + J2 + i * n2 + k) ∧ L.length = n + n2 - 1 ∧ co L = co (P.take i) * co Q + MP.Se.mo i (P.getD i 0) * co (Q.take k) ∧ Pe wr w.heap.size A n c P J ∧ Pe wr w.heap.size A2 n2 c2 Q J2 ∧ Below w.heap.size w wr
theorem MuR.next {w : World} {P Q : List Int} {J J2 g : Nat} {A : Option Addr} {n c : Nat} {A2 : Option Addr} {n2 c2 i : Nat} {wr : World} (hi : i < P.length) (hQ : Q.length = n2) (h : MuR w P Q J J2 g A n c A2 n2 c2 i n2 wr) : MuR w P Q J J2 g A n c A2 n2 c2 (i + 1) 0 wr := by
  obtain ⟨L, p, h1, h2, h3⟩ := h
  refine ⟨L, ?_, h1, ?_, h3⟩
  · rwa [Nat.add_zero, Nat.add_mul, Nat.one_mul, ← Nat.add_assoc]
  · rw [h2, MP.Se.co_take_all (l := Q) (k := n2) (by omega), List.getD_eq_getElem?_getD, List.getElem?_eq_getElem hi, List.take_zero, MP.Se.co_nil, MP.Se.mul_zero, MP.Se.add_zero]
    exact MP.Se.mul_round hi
theorem MuR.last {w : World} {P Q : List Int} {J J2 g : Nat} {A : Option Addr} {n c : Nat} {A2 : Option Addr} {n2 c2 : Nat} {wr : World} (hn : P.length = n) (h : MuR w P Q J J2 g A n c A2 n2 c2 n 0 wr) : ∃ L, Pw wr g L (J + J2 + n * n2) ∧ L.length = n + n2 - 1 ∧ co L = co P * co Q ∧ Below w.heap.size w wr := by
  obtain ⟨L, p, h1, h2, _, _, h3⟩ := h
  refine ⟨L, p, h1, ?_, h3⟩
  rw [h2, MP.Se.co_take_all (by omega), List.take_zero, MP.Se.co_nil, MP.Se.mul_zero, MP.Se.add_zero]
end Go.Proofs.YtbpamkpclofnbaaGreat
namespace Go.Proofs.YtbpamkpclofnbaaGreat
open Go.RowKit
open MP.Se (nf co)
set_option linter.unusedVariables false
set_option maxRecDepth 100000

/-- The sum of polynomials. -/
def sT (ts : List (Option Addr × Nat × Nat × List Int)) : MP.Se := ts.foldl (fun s t => s + co t.2.2.2) (MP.Se.c 0)
/-- How many coefficients they have together. -/
def tT (ts : List (Option Addr × Nat × Nat × List Int)) : Nat := ts.foldl (fun s t => s + t.2.1) 0
/-- Block g holds these slices of integers, all below block B. -/
def Tm (w : World) (g B : Nat) (ts : List (Option Addr × Nat × Nat × List Int)) (J : Nat) : Prop := g < w.heap.size ∧ ∀ k (hk : k < ts.length), w.cell? ⟨g, k, none⟩ = some (.slice ts[k].1 ts[k].2.1 ts[k].2.2.1) ∧ Pe w B ts[k].1 ts[k].2.1 ts[k].2.2.1 ts[k].2.2.2 J
section
variable {W v w' : World} {g h B J : Nat} {ts : List (Option Addr × Nat × Nat × List Int)}
theorem Tm.keep (t : Tm W g B ts J) (hb : Below W.heap.size W v) : Tm v g B ts J := ⟨Nat.lt_of_lt_of_le t.1 hb.size, fun k hk => ⟨(hb.cell (p := ⟨g, k, none⟩) t.1).trans (t.2 k hk).1, (t.2 k hk).2.keep hb⟩⟩
instance : Mv (Tm W g B ts J) W v (Tm v g B ts J) := ⟨fun x y => x.keep y⟩
instance : Ms (Tm W g B ts J) W v h (g ≠ h ∧ B ≤ h) (Tm v g B ts J) := ⟨fun s hg t => ⟨by rw [s.size]; exact t.1, fun k hk => ⟨(s.cell (p := ⟨g, k, none⟩) hg.1).trans (t.2 k hk).1, Ms.ms s hg.2 (t.2 k hk).2⟩⟩⟩
theorem sT_step {k : Nat} (hk : k < ts.length) : sT (ts.take (k + 1)) = sT (ts.take k) + co ts[k].2.2.2 := by
  rw [sT, sT, List.take_add_one, List.getElem?_eq_getElem hk, List.foldl_append]; rfl
theorem tT_step {k : Nat} (hk : k < ts.length) : tT (ts.take (k + 1)) = tT (ts.take k) + ts[k].2.1 := by
  rw [tT, tT, List.take_add_one, List.getElem?_eq_getElem hk, List.foldl_append]; rfl
end
/-- What the loops of sum keep. -/
def SuR (w : World) (ts : List (Option Addr × Nat × Nat × List Int)) (l5 : List Int) (g B J S go k i : Nat) (wr : World) : Prop :=
  ∃ L : List Int, Pw wr go L (J + tT (ts.take k) + i) ∧ L.length = S ∧ co L = sT (ts.take k) + co (l5.take i) ∧ Tm wr g B ts J ∧ Below w.heap.size w wr
theorem SuR.next {w : World} {ts : List (Option Addr × Nat × Nat × List Int)} {l5 : List Int} {g B J S go k n : Nat} {wr : World} (hk : k < ts.length) (hn : ts[k].2.1 = n) (hl : ts[k].2.2.2 = l5) (hln : l5.length = n) (h : SuR w ts l5 g B J S go k n wr) : SuR w ts [] g B J S go (k + 1) 0 wr := by
  obtain ⟨L, p, h1, h2, h3⟩ := h
  refine ⟨L, ?_, h1, ?_, h3⟩
  · rwa [tT_step hk, hn, Nat.add_zero, ← Nat.add_assoc]
  · rw [h2, sT_step hk, hl, MP.Se.co_take_all (by omega), List.take_nil, MP.Se.co_nil, MP.Se.add_zero]
theorem SuR.to {w : World} {ts : List (Option Addr × Nat × Nat × List Int)} {l5 l6 : List Int} {g B J S go k : Nat} {wr : World} (h : SuR w ts l5 g B J S go k 0 wr) : SuR w ts l6 g B J S go k 0 wr := h
end Go.Proofs.YtbpamkpclofnbaaGreat
namespace Go.Proofs.YtbpamkpclofnbaaGreat
open Go.RowKit
open MP.Se (nf co)
set_option linter.unusedVariables false
set_option maxRecDepth 100000

theorem Pe.kto {w : World} {B n c J K : Nat} {A : Option Addr} {l : List Int} (h : Pe w B A n c l J) (hK : J ≤ K) : Pe w B A n c l K := ⟨h.1, h.2.kto hK⟩
theorem Tm.two {w : World} {g B n c n2 c2 J : Nat} {A A2 : Option Addr} {l l2 : List Int} (h : Pe w B A n c l J) (h2 : Pe w B A2 n2 c2 l2 J) {t : TypeId} (hg : w.heap[g]? = some (.cells #[.slice A n c, .slice A2 n2 c2] t (0, 0))) : Tm w g B [(A, n, c, l), (A2, n2, c2, l2)] J :=
  ⟨(Array.getElem?_eq_some_iff.1 hg).1, fun k hk => by
    rw [cell_of_row w g k _ _ (0, 0) hg]
    rcases k with _ | _ | k
    · exact ⟨rfl, h⟩
    · exact ⟨rfl, h2⟩
    · simp at hk; omega⟩
theorem OutS.of {w w1 w' : World} {s : MP.Se} {K : Nat} {e : Ending} (h : OutS w1 s K e w') (hb : Below w.heap.size w w1) : OutS w s K e w' := by
  obtain ⟨L, h1, h2, A, n, c, e, hp, h3⟩ := h
  exact ⟨L, h1, h2, A, n, c, e, hp.more hb.size, bthen hb h3⟩
end Go.Proofs.YtbpamkpclofnbaaGreat
namespace Go.Proofs.YtbpamkpclofnbaaGreat
open Go.RowKit
open MP.Se (nf co)
set_option linter.unusedVariables false
set_option maxRecDepth 100000

theorem add_off (d o j : Nat) : (⟨d, o, none⟩ : Addr).add j = ⟨d, o + j, none⟩ := by unfold Addr.add; split <;> simp_all
/-- m cells from a on. -/
def cellL (w : World) (a : Addr) (m : Nat) : List Value := (List.range m).map fun j => (w.cell? (a.add j)).getD (.bool false)
theorem cellL_at (w : World) (a : Addr) (m j : Nat) (hj : j < m) : (cellL w a m)[j]? = some ((w.cell? (a.add j)).getD (.bool false)) := by
  simp [cellL, hj]
end Go.Proofs.YtbpamkpclofnbaaGreat
namespace Go.Proofs.YtbpamkpclofnbaaGreat
open Go.RowKit
set_option linter.unusedVariables false
set_option maxRecDepth 100000

theorem run_clone (w : World) (ty : TypeId) {B n c J : Nat} {A : Option Addr} {l : List Int} (h : Pd w B A n c l J) (hn0 : 0 < n) (b0 : Addr) :
    ∃ cap w', (Builtin.append_ #[22, 22] ty #[.slice (some b0) 0 0, .slice A n c]).run Tryz.prog w = .ok (.slice (some ⟨w.heap.size, 0, none⟩) n cap) w' ∧ Pz w' w.heap.size l J ∧ n ≤ cap ∧ Below w.heap.size w w' := by
  obtain ⟨i0, hi, hz0, hz1, hz2⟩ := info_parts Tryz.infoI
  have hl := h.len
  have hbig := h.big
  obtain ⟨d, o, rfl, _, hc⟩ := h.at_ hn0
  have hel : ∀ k (hk : k < n), ∃ b A m c, w.cell? ((⟨d, o, none⟩ : Addr).add (k * 2)) = some (.bool b) ∧ w.cell? ((⟨d, o, none⟩ : Addr).add (k * 2 + 1)) = some (.slice A m c) ∧ Zr w b A m c (l[k]'(by omega)) J := fun k hk => by
    rw [add_off, add_off, ← Nat.add_assoc]
    exact hc k (by omega)
  have hcell : ∀ j, j < n * 2 → ∃ u, w.cell? ((⟨d, o, none⟩ : Addr).add j) = some u ∧ ∀ x, u ≠ .int .u64 x := fun j hj => by
    obtain ⟨b, A, m, c, h1, h2, _⟩ := hel (j / 2) (by omega)
    rcases (show j = j / 2 * 2 ∨ j = j / 2 * 2 + 1 by omega) with e | e
    · exact ⟨.bool b, by rw [e]; exact h1, fun x => by simp⟩
    · exact ⟨.slice A m c, by rw [e]; exact h2, fun x => by simp⟩
  have hN : (cellL w ⟨d, o, none⟩ (n * 2)).length = n * 2 := by simp [cellL]
  have hnews : ∀ j u, (cellL w ⟨d, o, none⟩ (n * 2))[j]? = some u → w.cell? ((⟨d, o, none⟩ : Addr).add j) = some u ∧ ∀ x, u ≠ .int .u64 x := fun j u hj => by
    have hlt : j < n * 2 := by
      have := (List.getElem?_eq_some_iff.1 hj).1
      rwa [hN] at this
    rw [cellL_at _ _ _ _ hlt] at hj
    obtain ⟨u', hu, h1⟩ := hcell j hlt
    rw [hu] at hj
    injection hj with hj
    rw [hu]
    exact ⟨congrArg some hj, by rw [← hj]; exact h1⟩
  have hr := run_append_grow (P := Tryz.prog) w 22 ty 30 i0 _ Tryz.underlying22 hi hz0 b0 0 0 [] (by simp) (fun j u hj => by simp at hj) ⟨d, o, none⟩ n c (cellL w ⟨d, o, none⟩ (n * 2)) (by rw [hz1]; exact hN) (fun j u hj => (hnews j u hj).1) (by omega) (by omega) (growslice_fits (by omega) (by rw [hz2]; omega))
  have hge := grownCap_ge w (0 + n) 0 30
  have hb := (below_drew (Below.refl w.heap.size w)).alloc (Nat.le_refl _) (.cells ([].toArray ++ (cellL w ⟨d, o, none⟩ (n * 2)).toArray ++ Builtin.zeroCells (Value.cells (.agg #[.bool false, .slice none 0 0])) (grownCap w (0 + n) 0 30 - (0 + n))) 30)
  rw [Nat.zero_add] at hr hge hb
  refine ⟨_, _, hr, ⟨_, heap_alloc_new w.drew _, ?_, by omega, ?_, fun k hk => ?_⟩, hge, hb⟩
  · simp [hN, hl]
  · intro u hu
    simp only [Array.toList_append, List.mem_append] at hu
    rcases hu with (hu | hu) | hu
    · simp at hu
    · obtain ⟨j, hj⟩ := List.getElem?_of_mem (show u ∈ cellL w ⟨d, o, none⟩ (n * 2) by simpa using hu)
      exact (hnews j u hj).2
    · exact kd_zero _ u hu
  · obtain ⟨b, A, m, c2, h1, h2, z⟩ := hel k (by omega)
    have e : ∀ j (hj : j < n * 2) (Z : Array Value), (([] : List Value).toArray ++ (cellL w ⟨d, o, none⟩ (n * 2)).toArray ++ Z)[j]? = w.cell? ((⟨d, o, none⟩ : Addr).add j) := fun j hj Z => by
      rw [Array.getElem?_append_left (by simp [hN, hj])]
      obtain ⟨u, hu, _⟩ := hcell j hj
      have := cellL_at w ⟨d, o, none⟩ (n * 2) j hj
      rw [hu] at this ⊢
      simpa using this
    exact ⟨b, A, m, c2, (e _ (by omega) _).trans h1, (e _ (by omega) _).trans h2, z.keep hb⟩
theorem wp_clone {W : World} {ops : Array Oper} {rest : List Oper} {o : Oper} {a : Act} {Q : Exit → Act → World → Prop} (hgd : o.guard = none) (s x : Operand)
    (hop : o.op = .call { callee := .builtin .append, args := #[s, x], argTypes := #[22, 22] }) {b0 : Addr} (hs : a.eval s = .slice (some b0) 0 0)
    {B n c J : Nat} {A : Option Addr} {l : List Int} (hx : a.eval x = .slice A n c) (h : Pd W B A n c l J) (hn : 0 < n)
    (hK : ∀ cap w', Pz w' W.heap.size l J → n ≤ cap → Below W.heap.size W w' → wpList Tryz.prog ops Q rest (a.put o.dst (.slice (some ⟨W.heap.size, 0, none⟩) n cap)) w') : wpList Tryz.prog ops Q (o :: rest) a W :=
  wpList_plain hgd fun K hK2 => by
    obtain ⟨cap, w', hr, h2, h3, h4⟩ := run_clone W o.type h hn b0
    unfold Oper.wp execOp
    simp only [hop, resolve, invoke, builtin, Sem.run_bind, Sem.run_pure, Result.andThen_ok, List.map_toArray, List.map_cons, List.map_nil, hs, hx, hr]
    exact hK2 _ _ (hK _ _ h2 h3 h4)
theorem Sclone_any {w : World} {n c J : Nat} {A : Option Addr} {l : List Int} (h : Pe w w.heap.size A n c l J) (hn : 0 < n) :
    Calls Tryz.prog 167 #[.slice A n c] w fun e w' => ∃ g cap, e = .returned (.slice (some ⟨g, 0, none⟩) n cap) ∧ w.heap.size ≤ g ∧ Pz w' g l J ∧ n ≤ cap ∧ Below w.heap.size w w' := by
  obtain ⟨d, o, rfl, _⟩ := h.2.at_ hn
  have hnil : ∀ w, (binOp .eql 22 (.slice (some ⟨d, o, none⟩) n c) (.slice none 0 0)).run Tryz.prog w = .ok (.bool false) w := fun w => Lib.run_eql_slice_nil (P := Tryz.prog) w 22 30 (some ⟨d, o, none⟩) n c 0 0 Tryz.underlying22
  go_enter Tryz.func167, Tryz.ntmps167
  go_upto_region 3 with fail
  go_wp2_with (at_builtin; refine wp_clone rfl _ _ rfl rfl rfl (h.keep (below_alloc _ _)).2 hn ?_; intro cap w2 hz hc hb)
  go_ret
  have hsz : (w.alloc (.cells #[] 30)).heap.size = w.heap.size + 1 := by simp
  have hb2 := bthen (below_alloc w (.cells #[] 30)) hb
  rw [hsz] at hz
  exact ⟨_, _, rfl, Nat.le_succ _, hz, hc, hb2⟩
end Go.Proofs.YtbpamkpclofnbaaGreat
namespace Go.Proofs.YtbpamkpclofnbaaGreat
open Go.RowKit
open MP.Se (nf co)
set_option linter.unusedVariables false
set_option maxRecDepth 100000

section
variable {w W : World} {g n cap k : Nat} {xs : List Value} {A : Option Addr} {m c : Nat}
theorem Oy.len (h : Oy w g n cap xs) : xs.length = n := by
  obtain ⟨cur, _, _, _, _, _, h, _⟩ := h
  exact h
theorem Oy.big (h : Oy w g n cap xs) : n ≤ maxLen := by
  obtain ⟨cur, _, h, h2, _⟩ := h
  exact Nat.le_trans h h2
theorem Oy.at_ (h : Oy w g n cap xs) (hk : k < xs.length) : Vc w g k xs[k] := by
  have hl := h.lt
  obtain ⟨cur, h, h1, h2, h3, h4, h5, _⟩ := h
  refine ⟨hl, ?_⟩
  rw [cell_of_row w g k _ _ (0, 0) h, ← Array.getElem?_toList]
  have : xs[k]? = cur.toList[k]? := by rw [← h4, List.getElem?_take_of_lt (by omega)]
  rw [← this, List.getElem?_eq_getElem hk]
theorem Oy.nl (h : Oy w g n cap xs) : Nl w g := by
  obtain ⟨cur, h, _, _, _, _, _, hk⟩ := h
  exact nl_of h fun i y e => hk _ (by have := Array.mem_of_getElem? e; simpa using this) y rfl
theorem Oy.fr (h : Oy w g n cap xs) (i : Nat) : w.frozen? ⟨g, i, none⟩ = false := by
  obtain ⟨cur, h, _⟩ := h
  simp [World.frozen?, h]
theorem Oy.set (h : Oy W g n cap xs) (hk : k < n) : Sto W g (W.setCell ⟨g, k, none⟩ (.slice A m c)) ∧ Oy (W.setCell ⟨g, k, none⟩ (.slice A m c)) g n cap (xs.set k (.slice A m c)) := by
  have N := h.nl
  refine ⟨(Sto.refl W g).set N, ?_⟩
  obtain ⟨cur, h, h1, h2, h3, h4, h5, h6⟩ := h
  refine ⟨cur.setIfInBounds k (.slice A m c), ?_, h1, h2, by simp [h3], ?_, by simp [h5], ?_⟩
  · simp [World.setCell, Array.getElem?_modify, h]
  · rw [Array.toList_setIfInBounds, List.take_set, h4]
  · exact kd_set h6 (by simp)
theorem Oy.sto {d : Nat} {v : World} (h : Oy W g n cap xs) (hd : g ≠ d) (s : Sto W d v) : Oy v g n cap xs := h.to (s.block _ hd)
instance Oy.ms {d : Nat} {v : World} : Ms (Oy W g n cap xs) W v d (g ≠ d) (Oy v g n cap xs) := ⟨fun s hd x => x.sto hd s⟩
end
/-- Two places of a list are exchanged. -/
def swp {α : Type} (l : List α) (i k : Nat) : List α := match l[i]?, l[k]? with
  | some a, some b => (l.set i b).set k a
  | _, _ => l
theorem swp_eq {α : Type} {l : List α} {i k : Nat} (hi : i < l.length) (hk : k < l.length) : swp l i k = (l.set i l[k]).set k l[i] := by
  simp [swp, List.getElem?_eq_getElem hi, List.getElem?_eq_getElem hk]
theorem swp_self {α : Type} {l : List α} {i : Nat} (hi : i < l.length) : swp l i i = l := by
  rw [swp_eq hi hi]
  simp
theorem Mexchange_any {w : World} {g d n cap i k m cm nn c : Nat} {P A A1 A2 : Option Addr} {s : Int} {b o : Bool} {xs : List Value} {m1 c1 m2 c2 : Nat}
    (he : Eb w g (some ⟨d, 0, none⟩) P n cap m cm s b A nn c o) (hr : Oy w d n cap xs) (hgd : g ≠ d) (hi : i < n) (hk : k < n) (hi2 : xs[i]? = some (.slice A1 m1 c1)) (hk2 : xs[k]? = some (.slice A2 m2 c2)) (hn : n ≤ 100000) :
    Calls Tryz.prog 169 #[.pointer (some ⟨g, 0, none⟩), .int .i64 (i : Int), .int .i64 (k : Int)] w fun e w' => e = .returned (.tuple #[]) ∧
      Eb w' g (some ⟨d, 0, none⟩) P n cap m cm s b A nn c (o != decide (i ≠ k)) ∧ Oy w' d n cap (swp xs i k) ∧ Fz (fun x => x = g ∨ x = d) w w' := by
  have hl := hr.len
  have hgl := he.lt
  have hdl := hr.lt
  obtain ⟨hil, hie⟩ := List.getElem?_eq_some_iff.1 hi2
  obtain ⟨hkl, hke⟩ := List.getElem?_eq_some_iff.1 hk2
  rcases (show i = k ∨ i ≠ k by omega) with hik | hik
  · subst hik
    have hxx := swp_self hil
    go_enter Tryz.func169, Tryz.ntmps169
    go_wp2
    go_end0
    exact ⟨rfl, by simpa using he, by rw [hxx]; exact hr, Fz.refl _⟩
  · have hne : ((i : Int) != k) = true := by simp; omega
    have hsw := swp_eq hil hkl
    rw [hie, hke] at hsw
    have c0 := he.c0; have c5 := he.c5
    have f0 := he.fr 5
    have r1 := (hr.at_ hil).al; have r2 := (hr.at_ hkl).al
    rw [hie] at r1; rw [hke] at r2
    have f1 := hr.fr i; have f2 := hr.fr k
    clear hie hke hi2 hk2 hl
    go_enter Tryz.func169, Tryz.ntmps169
    go_wp2_with fail
    go_region
    obtain ⟨s1, o1⟩ := hr.set (A := A2) (m := m2) (c := c2) hi
    obtain ⟨s2, o2⟩ := o1.set (A := A1) (m := m1) (c := c1) hk
    rw [← hsw] at o2
    have e2 := (he.sto hgd s1).sto hgd s2
    have f2 := (s1.fz.mono (Q := fun x => x = g ∨ x = d) fun _ _ e => .inr e).sto s2 (.inr (.inr rfl))
    have d2 : Below (w.heap.size) ((w.setCell ⟨d, i, none⟩ (.slice A2 m2 c2)).setCell ⟨d, k, none⟩ (.slice A1 m1 c1)) ((w.setCell ⟨d, i, none⟩ (.slice A2 m2 c2)).setCell ⟨d, k, none⟩ (.slice A1 m1 c1)).drew := below_drew (Below.refl _ _)
    have hz : ((w.setCell ⟨d, i, none⟩ (.slice A2 m2 c2)).setCell ⟨d, k, none⟩ (.slice A1 m1 c1)).heap.size = w.heap.size := by simp
    have e3 := e2.keep (by rw [hz]; exact d2)
    have o3 := o2.keep (by rw [hz]; exact d2)
    have f3 := f2.thenB (by rw [hz]; exact d2)
    clear d2 hz e2 o2 f2 s1 s2 o1 r1 r2 f0 f1 c0 c5
    generalize ((w.setCell ⟨d, i, none⟩ (.slice A2 m2 c2)).setCell ⟨d, k, none⟩ (.slice A1 m1 c1)).drew = v1 at *
    have c5 := e3.c5
    have f0 := e3.fr 5
    go_wp2
    obtain ⟨s4, e4⟩ := e3.odd (o' := !o)
    have hod : (o != decide (i ≠ k)) = !o := by simp [hik]
    rw [hod]
    have q1 := o3.sto (fun e => hgd e.symm) s4
    have q2 := f3.sto s4 (.inr (.inl rfl))
    go_end0
    exact ⟨rfl, e4, q1, q2⟩
end Go.Proofs.YtbpamkpclofnbaaGreat
namespace Go.Proofs.YtbpamkpclofnbaaGreat
open Go.RowKit
set_option linter.unusedVariables false
set_option maxRecDepth 100000

/-- The cells of the rows. -/
def rws (D C : Nat → Nat) (n m : Nat) : List Value := (List.range n).map fun i => .slice (some ⟨D i, 0, none⟩) m (C i)
/-- A row's integers. -/
def rwl (T : Nat → Nat → Int) (m i : Nat) : List Int := (List.range m).map (T i)
theorem rws_at {D C : Nat → Nat} {n m i : Nat} (hi : i < n) : (rws D C n m)[i]? = some (.slice (some ⟨D i, 0, none⟩) m (C i)) := by
  simp [rws, hi]
theorem rwl_len (T : Nat → Nat → Int) (m i : Nat) : (rwl T m i).length = m := by simp [rwl]
theorem rwl_at {T : Nat → Nat → Int} {m i k : Nat} (hk : k < (rwl T m i).length) : (rwl T m i)[k] = T i k := by simp [rwl]
theorem rwl_eq {T U : Nat → Nat → Int} {m i : Nat} (h : ∀ k, k < m → T i k = U i k) : rwl T m i = rwl U m i := by
  unfold rwl
  exact List.map_congr_left fun k hk => h k (List.mem_range.1 hk)
theorem rwl_set {T U : Nat → Nat → Int} {m i k : Nat} {Y : Int} (hk : k < m) (hY : U i k = Y) (h : ∀ j, j < m → j ≠ k → U i j = T i j) : rwl U m i = (rwl T m i).set k Y := by
  refine List.ext_getElem (by simp [rwl]) fun j h1 h2 => ?_
  rw [rwl_at]
  rw [List.getElem_set]
  split
  · rename_i e; subst e; exact hY
  · rename_i e; rw [rwl_at]; exact h j (by simpa [rwl] using h1) (fun e2 => e e2.symm)
/-- The blocks that a step may write. -/
def Tch (g p : Nat) (D : Nat → Nat) (n : Nat) : Nat → Prop := fun x => x = g ∨ x = p ∨ ∃ i, i < n ∧ x = D i
/-- All blocks are different. -/
structure Nd (g d p : Nat) (D : Nat → Nat) (n : Nat) : Prop where
  gd : g ≠ d
  gp : g ≠ p
  dp : d ≠ p
  rg : ∀ i, i < n → D i ≠ g
  rd : ∀ i, i < n → D i ≠ d
  rp : ∀ i, i < n → D i ≠ p
  rr : ∀ i j, i < n → j < n → i ≠ j → D i ≠ D j
/-- The elimination: its variable, its rows, the pivots' rows. -/
structure Ev (w : World) (g d p : Nat) (D C : Nat → Nat) (n cap m cm : Nat) (T : Nat → Nat → Int) (pr : List Int) (s : Int) (b : Bool) (A : Option Addr) (nn c : Nat) (o : Bool) (J : Nat) : Prop where
  e : Eb w g (some ⟨d, 0, none⟩) (some ⟨p, 0, none⟩) n cap m cm s b A nn c o
  y : Oy w d n cap (rws D C n m)
  i : Bi w p pr
  r : ∀ a, a < n → Pz w (D a) (rwl T m a) J
section
variable {w v W : World} {g d p n cap m cm nn c J K k a col : Nat} {D C : Nat → Nat} {T U : Nat → Nat → Int} {pr : List Int} {s s' : Int} {b o b' : Bool} {A A' : Option Addr} {n' c' : Nat} {Y : Int}
theorem Ev.keep (h : Ev w g d p D C n cap m cm T pr s b A nn c o J) (hb : Below w.heap.size w v) : Ev v g d p D C n cap m cm T pr s b A nn c o J :=
  ⟨h.e.keep hb, h.y.keep hb, h.i.keep hb, fun a ha => (h.r a ha).keep hb⟩
instance Ev.mv : Mv (Ev W g d p D C n cap m cm T pr s b A nn c o J) W v (Ev v g d p D C n cap m cm T pr s b A nn c o J) := ⟨fun x y => x.keep y⟩
theorem Ev.kto (h : Ev w g d p D C n cap m cm T pr s b A nn c o J) (hK : J ≤ K) : Ev w g d p D C n cap m cm T pr s b A nn c o K :=
  ⟨h.e, h.y, h.i, fun a ha => (h.r a ha).kto hK⟩
theorem Ev.eq (h : Ev w g d p D C n cap m cm T pr s b A nn c o J) (hU : ∀ a k, a < n → k < m → U a k = T a k) : Ev w g d p D C n cap m cm U pr s b A nn c o J :=
  ⟨h.e, h.y, h.i, fun a ha => by rw [rwl_eq (fun k hk => hU a k ha hk)]; exact h.r a ha⟩
theorem Ev.row (h : Ev w g d p D C n cap m cm T pr s b A nn c o J) (ha : a < n) : w.cell? ⟨d, a, none⟩ = some (.slice (some ⟨D a, 0, none⟩) m (C a)) := by
  have hr := rws_at (D := D) (C := C) (m := m) ha
  obtain ⟨h1, h2⟩ := List.getElem?_eq_some_iff.1 hr
  have := (h.y.at_ h1).al
  rwa [h2] at this
theorem Ev.el (h : Ev w g d p D C n cap m cm T pr s b A nn c o J) (ha : a < n) (hk : k < m) : ∃ b A n c, Ec w (D a) (k * 2) b A n c ∧ Zr w b A n c (T a k) J := by
  obtain ⟨b, A, n, c, e, z⟩ := (h.r a ha).ec (k := k) (by rw [rwl_len]; exact hk)
  rw [rwl_at] at z
  exact ⟨b, A, n, c, e, z⟩
theorem Ev.piv (h : Ev w g d p D C n cap m cm T pr s b A nn c o J) : Ec w g 3 b A nn c := ⟨h.e.lt, h.e.c3, h.e.c4⟩
/-- An element of a row is written. -/
theorem Ev.put (N : Nd g d p D n) (h : Ev W g d p D C n cap m cm T pr s b A nn c o J) (ha : a < n) (hk : k < m) (z : Zr W b' A' n' c' Y J)
    (hU : ∀ i j, i < n → j < m → U i j = if i = a ∧ j = k then Y else T i j) :
    Sto W (D a) ((W.setCell ⟨D a, k * 2, none⟩ (.bool b')).setCell ⟨D a, k * 2 + 1, none⟩ (.slice A' n' c')) ∧ Ev ((W.setCell ⟨D a, k * 2, none⟩ (.bool b')).setCell ⟨D a, k * 2 + 1, none⟩ (.slice A' n' c')) g d p D C n cap m cm U pr s b A nn c o J := by
  obtain ⟨st, q⟩ := (h.r a ha).set (k := k) (by rw [rwl_len]; exact hk) z
  refine ⟨st, h.e.sto (fun e => N.rg a ha e.symm) st, h.y.sto (fun e => N.rd a ha e.symm) st, h.i.sto (fun e => N.rp a ha e.symm) st, fun i hi => ?_⟩
  by_cases hia : i = a
  · subst hia
    rw [rwl_set (T := T) (Y := Y) hk (by rw [hU i k hi hk, if_pos ⟨rfl, rfl⟩]) (fun j hj hjk => by rw [hU i j hi hj, if_neg (by rintro ⟨_, e⟩; exact hjk e)])]
    exact q
  · rw [rwl_eq (U := T) (fun j hj => by rw [hU i j hi hj, if_neg (by rintro ⟨e, _⟩; exact hia e)])]
    exact (h.r i hi).sto (N.rr i a hi ha hia) st
/-- A pivot's row is noted. -/
theorem Ev.note (N : Nd g d p D n) (h : Ev W g d p D C n cap m cm T pr s b A nn c o J) (hc : col < pr.length) :
    Sto W p (W.setCell ⟨p, col, none⟩ (.int .i64 s')) ∧ Ev (W.setCell ⟨p, col, none⟩ (.int .i64 s')) g d p D C n cap m cm T (pr.set col s') s b A nn c o J := by
  obtain ⟨st, q⟩ := h.i.set (x := s') hc
  exact ⟨st, h.e.sto N.gp st, h.y.sto N.dp st, q, fun a ha => (h.r a ha).sto (N.rp a ha) st⟩
theorem Ev.setPivot (N : Nd g d p D n) (h : Ev W g d p D C n cap m cm T pr s b A nn c o J) :
    Sto W g ((W.setCell ⟨g, 3, none⟩ (.bool b')).setCell ⟨g, 4, none⟩ (.slice A' n' c')) ∧ Ev ((W.setCell ⟨g, 3, none⟩ (.bool b')).setCell ⟨g, 4, none⟩ (.slice A' n' c')) g d p D C n cap m cm T pr s b' A' n' c' o J := by
  obtain ⟨st, q⟩ := h.e.pivot (b' := b') (A' := A') (n' := n') (c' := c')
  exact ⟨st, q, h.y.sto (fun e => N.gd e.symm) st, h.i.sto (fun e => N.gp e.symm) st, fun a ha => (h.r a ha).sto (N.rg a ha) st⟩
theorem Ev.setSteps (N : Nd g d p D n) (h : Ev W g d p D C n cap m cm T pr s b A nn c o J) :
    Sto W g (W.setCell ⟨g, 2, none⟩ (.int .i64 s')) ∧ Ev (W.setCell ⟨g, 2, none⟩ (.int .i64 s')) g d p D C n cap m cm T pr s' b A nn c o J := by
  obtain ⟨st, q⟩ := h.e.steps (s' := s')
  exact ⟨st, q, h.y.sto (fun e => N.gd e.symm) st, h.i.sto (fun e => N.gp e.symm) st, fun a ha => (h.r a ha).sto (N.rg a ha) st⟩
end
/-- The rows while a step is under way: rows below i are done, of row i the columns below k. -/
def tst (T G : Nat → Nat → Int) (ρ κ : Nat → Bool) (i k : Nat) : Nat → Nat → Int := fun a j => if (a < i ∨ (a = i ∧ j < k)) ∧ ρ a = false ∧ κ j = false then G a j else T a j
section
variable {T G : Nat → Nat → Int} {ρ κ : Nat → Bool} {i k a j m : Nat}
theorem tst_zero : tst T G ρ κ 0 0 a j = T a j := by simp [tst]
theorem tst_row (h : ρ i = true) : tst T G ρ κ (i + 1) 0 a j = tst T G ρ κ i 0 a j := by
  unfold tst
  by_cases ha : a = i
  · subst ha; simp [h]
  · have : a < i + 1 ↔ a < i := by omega
    simp [this]
theorem tst_col (h : κ k = true) : tst T G ρ κ i (k + 1) a j = tst T G ρ κ i k a j := by
  unfold tst
  by_cases hj : j = k
  · subst hj; simp [h]
  · have : j < k + 1 ↔ j < k := by omega
    simp [this]
theorem tst_put (h : ρ i = false) (h2 : κ k = false) : tst T G ρ κ i (k + 1) a j = if a = i ∧ j = k then G i k else tst T G ρ κ i k a j := by
  unfold tst
  by_cases ha : a = i
  · subst ha
    by_cases hj : j = k
    · subst hj; simp [h, h2]
    · have : j < k + 1 ↔ j < k := by omega
      simp [this, hj]
  · simp [ha]
theorem tst_next (hj : j < m) : tst T G ρ κ (i + 1) 0 a j = tst T G ρ κ i m a j := by
  unfold tst
  have : (a < i + 1 ∨ a = i + 1 ∧ j < 0) ↔ (a < i ∨ a = i ∧ j < m) := by omega
  simp only [this]
end
/-- The elements that a step has not turned yet read as before. -/
def Un (w : World) (D : Nat → Nat) (n m : Nat) (T : Nat → Nat → Int) (ρ κ : Nat → Bool) (J i k : Nat) : Prop :=
  ∀ a j, a < n → j < m → (i < a ∨ (a = i ∧ k ≤ j) ∨ ρ a = true ∨ κ j = true) → ∃ b A nn c, Ec w (D a) (j * 2) b A nn c ∧ Zr w b A nn c (T a j) J
section
variable {w v W : World} {g d p n m nn c J i k i' k' : Nat} {D : Nat → Nat} {T : Nat → Nat → Int} {ρ κ : Nat → Bool} {b' : Bool} {A' : Option Addr} {n' c' : Nat}
theorem Un.keep (h : Un w D n m T ρ κ J i k) (hb : Below w.heap.size w v) : Un v D n m T ρ κ J i k := fun a j ha hj hc => by
  obtain ⟨b, A, nn, c, e, z⟩ := h a j ha hj hc
  exact ⟨b, A, nn, c, e.keep hb, z.keep hb⟩
instance Un.mv : Mv (Un W D n m T ρ κ J i k) W v (Un v D n m T ρ κ J i k) := ⟨fun x y => x.keep y⟩
theorem Un.mono (h : Un w D n m T ρ κ J i k) (hc : ∀ a j, (i' < a ∨ (a = i' ∧ k' ≤ j) ∨ ρ a = true ∨ κ j = true) → (i < a ∨ (a = i ∧ k ≤ j) ∨ ρ a = true ∨ κ j = true)) : Un w D n m T ρ κ J i' k' :=
  fun a j ha hj h2 => h a j ha hj (hc a j h2)
theorem Un.row (h : Un w D n m T ρ κ J i 0) (hr : ρ i = true) : Un w D n m T ρ κ J (i + 1) 0 := h.mono fun a j h2 => by
  rcases h2 with h2 | h2 | h2 | h2
  · exact .inl (by omega)
  · exact .inl (by omega)
  · exact .inr (.inr (.inl h2))
  · exact .inr (.inr (.inr h2))
theorem Un.next (h : Un w D n m T ρ κ J i k) : Un w D n m T ρ κ J (i + 1) 0 := h.mono fun a j h2 => by
  rcases h2 with h2 | h2 | h2 | h2
  · exact .inl (by omega)
  · exact .inl (by omega)
  · exact .inr (.inr (.inl h2))
  · exact .inr (.inr (.inr h2))
theorem Un.col (h : Un w D n m T ρ κ J i k) : Un w D n m T ρ κ J i (k + 1) := h.mono fun a j h2 => by
  rcases h2 with h2 | h2 | h2 | h2
  · exact .inl h2
  · exact .inr (.inl ⟨h2.1, by omega⟩)
  · exact .inr (.inr (.inl h2))
  · exact .inr (.inr (.inr h2))
theorem Un.put (N : Nd g d p D n) (h : Un W D n m T ρ κ J i k) (hi : i < n) (hr : ρ i = false) (hk : κ k = false)
    (s : Sto W (D i) ((W.setCell ⟨D i, k * 2, none⟩ (.bool b')).setCell ⟨D i, k * 2 + 1, none⟩ (.slice A' n' c'))) :
    Un ((W.setCell ⟨D i, k * 2, none⟩ (.bool b')).setCell ⟨D i, k * 2 + 1, none⟩ (.slice A' n' c')) D n m T ρ κ J i (k + 1) := fun a j ha hj h2 => by
  obtain ⟨b, A, nn, c, e, z⟩ := h.col a j ha hj h2
  refine ⟨b, A, nn, c, ?_, Ms.ms (g := D i) s trivial z⟩
  by_cases hai : a = i
  · subst hai
    have hjk : j ≠ k := by
      rintro rfl
      rcases h2 with h2 | h2 | h2 | h2
      · omega
      · omega
      · rw [hr] at h2; cases h2
      · rw [hk] at h2; cases h2
    have o1 : ∀ x y, x ≠ y → (⟨D a, x, none⟩ : Addr) ≠ ⟨D a, y, none⟩ := fun x y h e => h (by injection e)
    refine ⟨by simpa [World.setCell] using e.1, ?_, ?_⟩
    · rw [World.cell?_setCell_other _ _ _ _ (o1 _ _ (by omega)), World.cell?_setCell_other _ _ _ _ (o1 _ _ (by omega))]; exact e.2.1
    · rw [World.cell?_setCell_other _ _ _ _ (o1 _ _ (by omega)), World.cell?_setCell_other _ _ _ _ (o1 _ _ (by omega))]; exact e.2.2
  · exact e.sto (N.rr a i ha hi hai) s
theorem Un.first {cap cm : Nat} {C : Nat → Nat} {pr : List Int} {s : Int} {b o : Bool} {A : Option Addr} (h : Ev w g d p D C n cap m cm T pr s b A nn c o J) : Un w D n m T ρ κ J 0 0 :=
  fun a j ha hj _ => h.el ha hj
end
/-- A new variable for an integer in normal form. -/
def BnNew1 (v : World) (X : Int) (k : Nat) (s : Value) (wx : World) : Prop :=
  ∃ g A n c, s = .pointer (some ⟨g, 0, none⟩) ∧ Bx wx g (ngB X) A n c ∧ Zn wx A n c X k ∧ v.heap.size ≤ g ∧ Below v.heap.size v wx
theorem BnNew1.put {v wx : World} {X : Int} {k g n c m d : Nat} {p : Bool} {A B : Option Addr} (hv : Below v.heap.size v wx) (x : Bx wx g p B m d) (hg : v.heap.size ≤ g) (z : Zn wx A n c X k) :
    BnNew1 v X k (.pointer (some ⟨g, 0, none⟩)) ((wx.setCell ⟨g, 0, none⟩ (.bool (ngB X))).setCell ⟨g, 1, none⟩ (.slice A n c)) :=
  ⟨g, A, n, c, rfl, x.put _ _ _ _, z.put x, hg, put_below hv hg _ _⟩
theorem BnNew1.new {v wx : World} {X : Int} {k n c : Nat} {A : Option Addr} (hv : Below v.heap.size v wx) (z : Zn wx A n c X k) :
    BnNew1 v X k (.pointer (some ⟨wx.heap.size, 0, none⟩)) (wx.alloc (.cells #[.bool (ngB X), .slice A n c] 30)) :=
  ⟨wx.heap.size, A, n, c, rfl, Bx.new _ _ _ _ _, z.keep (below_alloc _ _), hv.size, bthen hv (below_alloc _ _)⟩
/-- A new block at the end, and an order drawn. -/
theorem al1d {F : World → Prop} {w : World} {o : Obj} (h : ∀ v, Below w.heap.size w v → v.heap[w.heap.size]? = some o → F v) : F (w.alloc o).drew := h _ (below_drew (below_alloc w o)) (heap_alloc_new w o)
theorem Sto.drw {W v : World} {g : Nat} (s : Sto W g v) : Sto W g v.drew := ⟨s.os, s.tape, s.output, s.size, s.block, s.limb⟩
section
variable {w : World} {g d p n cap m cm nn c J a : Nat} {D C : Nat → Nat} {T : Nat → Nat → Int} {pr : List Int} {s : Int} {b o : Bool} {A : Option Addr}
theorem Ev.drw (h : Ev w g d p D C n cap m cm T pr s b A nn c o J) : Ev w.drew g d p D C n cap m cm T pr s b A nn c o J := ⟨h.e, h.y, h.i, h.r⟩
theorem Tch.ag : Tch g p D n g := .inl rfl
theorem Tch.ap : Tch g p D n p := .inr (.inl rfl)
theorem Tch.ar (ha : a < n) : Tch g p D n (D a) := .inr (.inr ⟨a, ha, rfl⟩)
end
theorem asd {w : World} {d e i j k : Nat} {u v : Value} {x : Option Value} (h : d ≠ e) (hc : w.cell? ⟨d, i, none⟩ = x) : ((w.setCell ⟨e, j, none⟩ u).setCell ⟨e, k, none⟩ v).cell? ⟨d, i, none⟩ = x :=
  (World.cell?_setCell_other _ _ _ _ (fun e2 => h (by injection e2 with e3; exact e3.symm))).trans ((World.cell?_setCell_other _ _ _ _ (fun e2 => h (by injection e2 with e3; exact e3.symm))).trans hc)
end Go.Proofs.YtbpamkpclofnbaaGreat
namespace Go.Proofs.YtbpamkpclofnbaaGreat
open Go.RowKit
open MP.Se (nf co)
set_option linter.unusedVariables false
set_option maxRecDepth 100000

/-- What a step's loop over the rows keeps. -/
def StO (w : World) (g d p : Nat) (D C : Nat → Nat) (n cap m cm : Nat) (T G : Nat → Nat → Int) (ρ κ : Nat → Bool) (pr : List Int) (s : Int) (b : Bool) (A : Option Addr) (nn c : Nat) (o : Bool) (J K : Nat) (b1 : Bool) (A1 : Option Addr) (n1 c1 : Nat) (Y X : Int) (i : Nat) (wr : World) : Prop :=
  Ev wr g d p D C n cap m cm (tst T G ρ κ i 0) pr s b A nn c o K ∧ Un wr D n m T ρ κ J i 0 ∧ Bx wr w.heap.size b1 A1 n1 c1 ∧ Zr wr b1 A1 n1 c1 Y J ∧ Zr wr b A nn c X J ∧ Fz (Tch g p D n) w wr
/-- What a step's loop over a row keeps. -/
def StI (w : World) (g d p : Nat) (D C : Nat → Nat) (n cap m cm : Nat) (T G : Nat → Nat → Int) (ρ κ : Nat → Bool) (pr : List Int) (s : Int) (b : Bool) (A : Option Addr) (nn c : Nat) (o : Bool) (J K : Nat) (b1 : Bool) (A1 : Option Addr) (n1 c1 : Nat) (Y X : Int) (gf : Nat) (b2 : Bool) (A2 : Option Addr) (n2 c2 : Nat) (V : Int) (i k : Nat) (wr : World) : Prop :=
  Ev wr g d p D C n cap m cm (tst T G ρ κ i k) pr s b A nn c o K ∧ Un wr D n m T ρ κ J i k ∧ Bx wr w.heap.size b1 A1 n1 c1 ∧ Zr wr b1 A1 n1 c1 Y J ∧ Zr wr b A nn c X J ∧ Bx wr gf b2 A2 n2 c2 ∧ Zr wr b2 A2 n2 c2 V J ∧ w.heap.size < gf ∧ Fz (Tch g p D n) w wr
set_option maxHeartbeats 8000000 in
theorem Mstep_any {w : World} {g d p n cap m cm nn c J K s col fR fC : Nat} {D C : Nat → Nat} {T G : Nat → Nat → Int} {pr : List Int} {b o : Bool} {A : Option Addr} {X : Int} {ρ κ : Nat → Bool} {cR cC : Array Value}
    (N : Nd g d p D n) (h : Ev w g d p D C n cap m cm T pr (s : Int) b A nn c o J) (zx : Zr w b A nn c X J) (hX : X ≠ 0) (hs : s < n) (hc : col < m) (hpr : pr.length = m) (hρ : ρ s = true) (hκ : κ col = true)
    (hG : ∀ i k, i < n → k < m → ρ i = false → κ k = false → T i k * T s col - T i col * T s k = X * G i k) (hJ : J + J + 2 ≤ K) (hK : K ≤ 900000) (hn : n ≤ 100000) (hm : m ≤ 100000)
    (eR : ∀ (args : Array Value) (w : World), (callFunc fR args).run Tryz.prog w = .ok (.enter fR args) w) (eC : ∀ (args : Array Value) (w : World), (callFunc fC args).run Tryz.prog w = .ok (.enter fC args) w)
    (hR : ∀ (v : World) (i : Nat), i < n → Fz (Tch g p D n) w v → Eb v g (some ⟨d, 0, none⟩) (some ⟨p, 0, none⟩) n cap m cm (s : Int) b A nn c o → Bi v p (pr.set col (s : Int)) → Calls Tryz.prog fR (#[.int .i64 (i : Int)] ++ cR) v fun e w' => e = .returned (.bool (ρ i)) ∧ Below v.heap.size v w')
    (hC : ∀ (v : World) (k : Nat), k < m → Fz (Tch g p D n) w v → Eb v g (some ⟨d, 0, none⟩) (some ⟨p, 0, none⟩) n cap m cm (s : Int) b A nn c o → Bi v p (pr.set col (s : Int)) → Calls Tryz.prog fC (#[.int .i64 (k : Int)] ++ cC) v fun e w' => e = .returned (.bool (κ k)) ∧ Below v.heap.size v w') :
    Calls Tryz.prog 170 #[.pointer (some ⟨g, 0, none⟩), .int .i64 (col : Int), .func (.func fR) #[] cR, .func (.func fC) #[] cC] w fun e w' => e = .returned (.tuple #[]) ∧
      ∃ b1 A1 n1 c1, Ev w' g d p D C n cap m cm (fun i k => if ρ i = false ∧ κ k = false then G i k else T i k) (pr.set col (s : Int)) ((s : Int) + 1) b1 A1 n1 c1 o K ∧ Zr w' b1 A1 n1 c1 (T s col) J ∧ Fz (Tch g p D n) w w' := by
  have hgl := h.e.lt; have hdl := h.y.lt; have hpl := h.i.lt
  have HD : Hid (∀ a, a < n → D a < w.heap.size) := Lib.hid fun a ha => (h.r a ha).lt
  have HN := Lib.hid N; have HG := Lib.hid hG; have HR := Lib.hid hR; have HC := Lib.hid hC; have HX := Lib.hid hX; have HP := Lib.hid hpr
  have HRho := Lib.hid hρ; have HKap := Lib.hid hκ
  clear N hG hR hC hX hρ hκ hpr
  obtain ⟨b1, A1, n1, c1, x_y, z_y⟩ := h.el hs hc
  have hb : Fz (Tch g p D n) w w := Fz.refl _
  have q0 := h.e.c0; have q2 := h.e.c2
  have q3 := h.row hs
  have q_y := x_y.al
  go_enter Tryz.func170, Tryz.ntmps170
  go_wp2_with fail
  go_region
  go_upto_region 2 with fail
  clear q0 q2 q3
  have l_y_p := x_y.lt
  have e_p : w.heap.size ≤ w.heap.size := hb.size
  clear q_y
  refine al1d fun v1 hb1 x_p => ?_
  replace x_p := Bx.of x_p
  obtain ⟨x_y, h, zx, z_y, hb⟩ := mv5 hb1 x_y h zx z_y hb
  clear hb1
  have q_y := x_y.al
  have q_p := x_p.al
  have q1 := h.e.c1; have q2 := h.e.c2
  have f_p := h.i.fr col
  have hcp : col < pr.length := by rw [HP.out]; exact hc
  have q_i := (h.i.at_ hcp).al
  go_wp2_with fail
  go_region
  obtain ⟨st0, h9⟩ := h.note HN.out (s' := (s : Int)) hcp
  replace h9 := h9.drw
  have st := st0.drw
  clear st0
  have x_p9 : Bx _ w.heap.size b1 A1 n1 c1 := Ms.ms (g := p) st (by omega) x_p
  have z_y9 := Ms.ms (g := p) st trivial z_y
  have zx9 := Ms.ms (g := p) st trivial zx
  have hb9 := hb.sto st (.inr Tch.ap)
  clear q_i
  clear h x_p z_y zx hb q1 q2 f_p st x_y
  generalize (v1.setCell ⟨p, col, none⟩ (.int .i64 (s : Int))).drew = v2 at *
  have hr0 : StO w g d p D C n cap m cm T G ρ κ (pr.set col (s : Int)) (s : Int) b A nn c o J K b1 A1 n1 c1 (T s col) X 0 v2 := ⟨(h9.kto (by omega)).eq fun _ _ _ _ => tst_zero, Un.first h9, x_p9, z_y9, zx9, hb9⟩
  obtain ⟨Y, hY⟩ : ∃ Y, T s col = Y := ⟨_, rfl⟩
  rw [hY] at hr0
  have HY := Lib.hid hY
  have q1 := h9.e.c0
  clear h9 x_p9 z_y9 zx9 hb9 hY l_y_p e_p q_y
  go_wp2_with fail
  clear q1
  go_loopw [44] (fun kv wr => ∃ i : Nat, i ≤ n ∧ kv = .int .i64 (i : Int) ∧ StO w g d p D C n cap m cm T G ρ κ (pr.set col (s : Int)) (s : Int) b A nn c o J K b1 A1 n1 c1 Y X i wr) (fun kv _ => n - (intOf kv).toNat)
  case atStart => exact ⟨0, by omega, rfl, hr0⟩
  case round =>
    clear hr0
    obtain ⟨i, hi, rfl, h, u, x_p, z_y, zx, hb⟩ := hrel
    rcases (show n = i ∨ i < n by omega) with hin | hin
    · subst hin
      have q_p := x_p.al
      have q3 := h.piv.c0; have q4 := h.piv.c1; have f3 := h.e.fr 3; have f4 := h.e.fr 4
      go_upto_region 17 with fail
      obtain ⟨st, h9⟩ := h.setPivot HN.out (b' := b1) (A' := A1) (n' := n1) (c' := c1)
      have z_y9 := Ms.ms (g := g) st trivial z_y
      have hb9 := hb.sto st (.inr Tch.ag)
      clear h u x_p z_y zx hb st q3 q4 f3 f4 q_p
      generalize ((wr.setCell ⟨g, 3, none⟩ (.bool b1)).setCell ⟨g, 4, none⟩ (.slice A1 n1 c1)) = v4 at *
      have q2 := h9.e.c2; have f2 := h9.e.fr 2
      have hw : IntKind.i64.wrap ((s : Int) + 1) = (s : Int) + 1 := i64_keep (by omega) (by omega)
      go_wp2
      obtain ⟨st, h8⟩ := h9.setSteps HN.out (s' := (s : Int) + 1)
      go_end0
      exact ⟨rfl, _, _, _, _, h8.eq fun a k ha hk => (by simp [tst, ha]), by rw [HY.out]; exact Ms.ms (g := g) st trivial z_y9, hb9.sto st (.inr Tch.ag)⟩
    · have q_r := h.row hin
      obtain ⟨β, hβ⟩ : ∃ β, ρ i = β := ⟨_, rfl⟩
      have HCL := Lib.hid (HR.out wr i hin hb h.e h.i)
      rw [hβ] at HCL
      have HB := Lib.hid hβ; clear hβ
      go_wp2_with fail
      with_reducible refine HCL.out.mono ?_
      rintro e v3 ⟨rfl, hb1⟩
      clear q_r HCL
      obtain ⟨h, u, z_y, zx, x_p, hb⟩ := mv6 hb1 h u z_y zx x_p hb
      clear hb1
      rcases β with _ | _
      rotate_left
      · go_wp2_with fail
        exact ⟨⟨i + 1, by omega, by go_num, h.eq fun a k _ _ => tst_row HB.out, u.row HB.out, x_p, z_y, zx, hb⟩, by simp [intOf]; omega⟩
      · obtain ⟨b2, A2, n2, c2, x_y, z_f⟩ := u i col hin hc (.inr (.inl ⟨rfl, Nat.zero_le _⟩))
        have hgs := hb.size
        have q_p := x_p.al
        have q_y := x_y.al
        go_upto_region 8 with fail
        have l_p_f := x_p.lt
        have l_y_f := x_y.lt
        have e_f : w.heap.size ≤ v3.heap.size := hb.size
        clear q_p q_y
        refine al1 fun v2 hb1 x_f => ?_
        replace x_f := Bx.of x_f
        obtain ⟨x_p, x_y, h, u, z_y, zx, z_f, hb⟩ := mv8 hb1 x_p x_y h u z_y zx z_f hb
        clear hb1
        have q_p := x_p.al
        have q_y := x_y.al
        have q_f := x_f.al
        have hr1 : StI w g d p D C n cap m cm T G ρ κ (pr.set col (s : Int)) (s : Int) b A nn c o J K b1 A1 n1 c1 Y X v3.heap.size b2 A2 n2 c2 (T i col) i 0 v2 := ⟨h, u, x_p, z_y, zx, x_f, z_f, by omega, hb⟩
        obtain ⟨gf, hgf⟩ : ∃ g, v3.heap.size = g := ⟨_, rfl⟩
        rw [hgf] at hr1 ⊢
        obtain ⟨V, hV⟩ : ∃ V, T i col = V := ⟨_, rfl⟩
        rw [hV] at hr1
        have HV := Lib.hid hV
        clear hV h u x_p z_y zx x_f z_f hb hgf
        (try clear q_p); (try clear q_f); (try clear q_y); (try clear l_y_f); (try clear l_p_f); (try clear e_f)
        go_wp2_with fail
        go_loopw [58] (fun kv wx => ∃ k : Nat, k ≤ m ∧ kv = .int .i64 (k : Int) ∧ StI w g d p D C n cap m cm T G ρ κ (pr.set col (s : Int)) (s : Int) b A nn c o J K b1 A1 n1 c1 Y X gf b2 A2 n2 c2 V i k wx) (fun kv _ => m - (intOf kv).toNat)
        case atStart => exact ⟨0, by omega, rfl, hr1⟩
        case round =>
          clear hr1
          obtain ⟨k, hk, rfl, h, u, x_p, z_y, zx, x_f, z_f, hgf, hb⟩ := hrel
          rcases (show m = k ∨ k < m by omega) with hkm | hkm
          · subst hkm
            go_wp2_with fail
            exact ⟨⟨i + 1, by omega, by go_num, h.eq fun a k _ hk => tst_next hk, u.next, x_p, z_y, zx, hb⟩, by simp [intOf]; omega⟩
          · obtain ⟨β, hβ⟩ : ∃ β, κ k = β := ⟨_, rfl⟩
            have HCL := Lib.hid (HC.out wr k hkm hb h.e h.i)
            rw [hβ] at HCL
            have HBK := Lib.hid hβ; clear hβ
            go_wp2_with fail
            with_reducible refine HCL.out.mono ?_
            rintro e v5 ⟨rfl, hb1⟩
            clear HCL
            obtain ⟨h, u, z_y, zx, z_f, x_p, x_f, hb⟩ := mv8 hb1 h u z_y zx z_f x_p x_f hb
            clear hb1
            rcases β with _ | _
            rotate_left
            · go_wp2_with fail
              exact ⟨⟨k + 1, by omega, by go_num, h.eq fun a j _ _ => tst_col HBK.out, u.col, x_p, z_y, zx, x_f, z_f, hgf, hb⟩, by simp [intOf]; omega⟩
            · obtain ⟨b3, A3, n3, c3, x_x, z_x⟩ := u i k hin hkm (.inr (.inl ⟨rfl, Nat.le_refl _⟩))
              obtain ⟨b4, A4, n4, c4, x_s, z_s⟩ := u s k hs hkm (.inr (.inr (.inl HRho.out)))
              have HE : Hid (T i k * Y - V * T s k = X * G i k) := Lib.hid (by rw [← HY.out, ← HV.out]; exact HG.out i k hin hkm HB.out HBK.out)
              obtain ⟨R, hR⟩ : ∃ R, X * G i k = R := ⟨_, rfl⟩
              rw [hR] at HE
              obtain ⟨Gk, hGk⟩ : ∃ Gk, G i k = Gk := ⟨_, rfl⟩
              have HQ : Hid (R / X = Gk) := Lib.hid (by rw [← hR, hGk]; exact Int.mul_ediv_cancel_left _ HX.out)
              have HGK := Lib.hid hGk; clear hR hGk
              generalize T i k = P1 at *
              generalize T s k = P2 at *
              have q_p := x_p.al
              have q_f := x_f.al
              have q_x := x_x.al
              have q_s := x_s.al
              go_upto_region 12 with fail
              have hv := Below.refl v5.heap.size v5
              have l_p_r := x_p.lt
              have l_f_r := x_f.lt
              have l_x_r := x_x.lt
              have l_s_r := x_s.lt
              go_cut [14] (fun s9 wx => BnNew1 v5 R (J + J + 1) s9 wx)
              case first =>
                go_region_held3 (fun w' => w'.cell? ⟨D i, k * 2, none⟩ = some (.bool b3) ∧ w'.cell? ⟨D i, k * 2 + 1, none⟩ = some (.slice A3 n3 c3) ∧ w'.cell? ⟨w.heap.size, 0, none⟩ = some (.bool b1) ∧ w'.cell? ⟨w.heap.size, 1, none⟩ = some (.slice A1 n1 c1) ∧ w'.cell? ⟨gf, 0, none⟩ = some (.bool b2) ∧ w'.cell? ⟨gf, 1, none⟩ = some (.slice A2 n2 c2) ∧ w'.cell? ⟨D s, k * 2, none⟩ = some (.bool b4) ∧ w'.cell? ⟨D s, k * 2 + 1, none⟩ = some (.slice A4 n4 c4))
                  (first | (with_reducible exact ⟨x_x.c0, x_x.c1, x_p.c0, x_p.c1, x_f.c0, x_f.c1, x_s.c0, x_s.c1⟩) | (with_reducible exact ⟨(x_x.alloc _).c0, (x_x.alloc _).c1, (x_p.alloc _).c0, (x_p.alloc _).c1, (x_f.alloc _).c0, (x_f.alloc _).c1, (x_s.alloc _).c0, (x_s.alloc _).c1⟩) | (with_reducible exact ⟨(x_x.aside (by omega)).c0, (x_x.aside (by omega)).c1, (x_p.aside (by omega)).c0, (x_p.aside (by omega)).c1, (x_f.aside (by omega)).c0, (x_f.aside (by omega)).c1, (x_s.aside (by omega)).c0, (x_s.aside (by omega)).c1⟩) | (with_reducible exact ⟨((x_x.alloc _).aside (by omega)).c0, ((x_x.alloc _).aside (by omega)).c1, ((x_p.alloc _).aside (by omega)).c0, ((x_p.alloc _).aside (by omega)).c1, ((x_f.alloc _).aside (by omega)).c0, ((x_f.alloc _).aside (by omega)).c1, ((x_s.alloc _).aside (by omega)).c0, ((x_s.alloc _).aside (by omega)).c1⟩) | go_keep)
                  (first | (go_at_call 84; (with_reducible refine (ZMul_any z_x.drw z_y.drw (J + J) (by omega) (by omega)).mono ?_); rintro e v21 ⟨A30, n30, c30, rfl, s1, hb1⟩; replace hb1 := undrew hb1; (try replace x_r := x_r.keep hb1); replace hv := bthen hv hb1; have hvs_v21 := hv.size; obtain ⟨x_p, x_f, x_x, x_s, h, u, z_y, zx, z_f⟩ := mv9 hb1 x_p x_f x_x x_s h u z_y zx z_f; obtain ⟨z_x, z_s, hb⟩ := mv3 hb1 z_x z_s hb; clear hb1; replace q_p := x_p.al; replace q_f := x_f.al; replace q_x := x_x.al; replace q_s := x_s.al; (try (have q_r0 := x_r.c0; have f_r0 := x_r.fr 0; have q_r1 := x_r.c1; have f_r1 := x_r.fr 1))) | (go_at_call 84; (with_reducible refine (ZMul_any (z_x.keep (below_alloc v5 (.cells #[.bool false, .slice none 0 0] 30))).drw (z_y.keep (below_alloc v5 (.cells #[.bool false, .slice none 0 0] 30))).drw (J + J) (by omega) (by omega)).mono ?_); rintro e v21 ⟨A30, n30, c30, rfl, s1, hb1⟩; replace hb1 := undrew hb1; have x_r := (Bx.new v5 false none 0 0).keep hb1; replace hb1 := bthen (below_alloc v5 (.cells #[.bool false, .slice none 0 0] 30)) hb1; replace hv := bthen hv hb1; have hvs_v21 := hv.size; obtain ⟨x_p, x_f, x_x, x_s, h, u, z_y, zx, z_f⟩ := mv9 hb1 x_p x_f x_x x_s h u z_y zx z_f; obtain ⟨z_x, z_s, hb⟩ := mv3 hb1 z_x z_s hb; clear hb1; replace q_p := x_p.al; replace q_f := x_f.al; replace q_x := x_x.al; replace q_s := x_s.al; (try (have q_r0 := x_r.c0; have f_r0 := x_r.fr 0; have q_r1 := x_r.c1; have f_r1 := x_r.fr 1))) | (go_at_call 84; (with_reducible refine (ZMul_any z_f z_s (J + J) (by omega) (by omega)).mono ?_); rintro e v22 ⟨A31, n31, c31, rfl, s2, hb1⟩; (try replace x_r := x_r.keep hb1); replace hv := bthen hv hb1; have hvs_v22 := hv.size; obtain ⟨x_p, x_f, x_x, x_s, h, u, z_y, zx, z_f⟩ := mv9 hb1 x_p x_f x_x x_s h u z_y zx z_f; obtain ⟨z_x, z_s, s1, hb⟩ := mv4 hb1 z_x z_s s1 hb; clear hb1; replace q_p := x_p.al; replace q_f := x_f.al; replace q_x := x_x.al; replace q_s := x_s.al; (try (have q_r0 := x_r.c0; have f_r0 := x_r.fr 0; have q_r1 := x_r.c1; have f_r1 := x_r.fr 1))) | (go_at_call 84; (with_reducible refine (ZMul_any (z_f.keep (below_alloc v21 (.cells #[.bool false, .slice none 0 0] 30))) (z_s.keep (below_alloc v21 (.cells #[.bool false, .slice none 0 0] 30))) (J + J) (by omega) (by omega)).mono ?_); rintro e v22 ⟨A31, n31, c31, rfl, s2, hb1⟩; have x_r := (Bx.new v21 false none 0 0).keep hb1; replace hb1 := bthen (below_alloc v21 (.cells #[.bool false, .slice none 0 0] 30)) hb1; replace hv := bthen hv hb1; have hvs_v22 := hv.size; obtain ⟨x_p, x_f, x_x, x_s, h, u, z_y, zx, z_f⟩ := mv9 hb1 x_p x_f x_x x_s h u z_y zx z_f; obtain ⟨z_x, z_s, s1, hb⟩ := mv4 hb1 z_x z_s s1 hb; clear hb1; replace q_p := x_p.al; replace q_f := x_f.al; replace q_x := x_x.al; replace q_s := x_s.al; (try (have q_r0 := x_r.c0; have f_r0 := x_r.fr 0; have q_r1 := x_r.c1; have f_r1 := x_r.fr 1))) | (go_at_call 116; (with_reducible refine (ZSub_any s1.zr s2.zr (J + J + 1) (by omega) (by omega) (by omega)).mono ?_); rintro e v23 ⟨A32, n32, c32, rfl, s3, hb1⟩; (try replace x_r := x_r.keep hb1); replace hv := bthen hv hb1; have hvs_v23 := hv.size; obtain ⟨x_p, x_f, x_x, x_s, h, u, z_y, zx, z_f⟩ := mv9 hb1 x_p x_f x_x x_s h u z_y zx z_f; obtain ⟨z_x, z_s, s1, s2, hb⟩ := mv5 hb1 z_x z_s s1 s2 hb; clear hb1; replace q_p := x_p.al; replace q_f := x_f.al; replace q_x := x_x.al; replace q_s := x_s.al; rw [HE.out] at s3 ⊢; (try (have q_r0 := x_r.c0; have f_r0 := x_r.fr 0; have q_r1 := x_r.c1; have f_r1 := x_r.fr 1))) | (go_at_call 116; (with_reducible refine (ZSub_any (s1.keep (below_alloc v22 (.cells #[.bool false, .slice none 0 0] 30))).zr (s2.keep (below_alloc v22 (.cells #[.bool false, .slice none 0 0] 30))).zr (J + J + 1) (by omega) (by omega) (by omega)).mono ?_); rintro e v23 ⟨A32, n32, c32, rfl, s3, hb1⟩; have x_r := (Bx.new v22 false none 0 0).keep hb1; replace hb1 := bthen (below_alloc v22 (.cells #[.bool false, .slice none 0 0] 30)) hb1; replace hv := bthen hv hb1; have hvs_v23 := hv.size; obtain ⟨x_p, x_f, x_x, x_s, h, u, z_y, zx, z_f⟩ := mv9 hb1 x_p x_f x_x x_s h u z_y zx z_f; obtain ⟨z_x, z_s, s1, s2, hb⟩ := mv5 hb1 z_x z_s s1 s2 hb; clear hb1; replace q_p := x_p.al; replace q_f := x_f.al; replace q_x := x_x.al; replace q_s := x_s.al; rw [HE.out] at s3 ⊢; (try (have q_r0 := x_r.c0; have f_r0 := x_r.fr 0; have q_r1 := x_r.c1; have f_r1 := x_r.fr 1))))
                all_goals go_wp2_with fail
                all_goals go_meet
                all_goals first | (with_reducible exact BnNew1.new hv s3) | (with_reducible exact BnNew1.put hv x_r (by omega) s3)
              obtain ⟨g24, Ax25, nx25, cx25, rfl, x_r, z_r, e_r, hb1⟩ := hcut
              clear hv
              obtain ⟨x_p, x_f, x_x, x_s, h, u, z_y, zx, z_f⟩ := mv9 hb1 x_p x_f x_x x_s h u z_y zx z_f
              obtain ⟨z_x, z_s, hb⟩ := mv3 hb1 z_x z_s hb
              clear hb1
              replace q_p := x_p.al
              replace q_f := x_f.al
              replace q_x := x_x.al
              replace q_s := x_s.al
              clear q_p q_f q_x q_s
              generalize wc = v26 at *
              have q_p := x_p.al
              have q_f := x_f.al
              have q_x := x_x.al
              have q_s := x_s.al
              have q_r := x_r.al
              go_upto_region 13 with fail
              have hn1 : g24 ≠ D i := by omega
              have hn2 : g ≠ D i := fun e => HN.out.rg i hin e.symm
              go_region_held3 (fun w' => w'.cell? ⟨g24, 0, none⟩ = some (.bool (ngB R)) ∧ w'.cell? ⟨g24, 1, none⟩ = some (.slice Ax25 nx25 cx25) ∧ w'.cell? ⟨g, 3, none⟩ = some (.bool b) ∧ w'.cell? ⟨g, 4, none⟩ = some (.slice A nn c))
                (first | (exact ⟨x_r.c0, x_r.c1, h.e.c3, h.e.c4⟩) | (exact ⟨asd hn1 x_r.c0, asd hn1 x_r.c1, asd hn2 h.e.c3, asd hn2 h.e.c4⟩) | go_keep)
                (first | (go_at_call 115; (with_reducible refine (ZDivMod_any z_r.zr.drw zx.drw HX.out K (by omega) (by omega) (by omega)).mono ?_); rintro e v27 ⟨A8, n8, c8, A9, n9, c9, rfl, z8, z9, hb1⟩; replace hb1 := undrew hb1; obtain ⟨x_p, x_f, x_x, x_s, x_r, h, u, z_y, zx⟩ := mv9 hb1 x_p x_f x_x x_s x_r h u z_y zx; obtain ⟨z_f, z_x, z_s, z_r, hb⟩ := mv5 hb1 z_f z_x z_s z_r hb; clear hb1; replace q_p := x_p.al; replace q_f := x_f.al; replace q_x := x_x.al; replace q_s := x_s.al; replace q_r := x_r.al; rw [HQ.out] at z8 ⊢; have q_t := x_x.al; have f_t := And.intro ((h.r i hin).fr (k * 2)) ((h.r i hin).fr (k * 2 + 1))))
              go_wp2_with fail
              obtain ⟨st, h9⟩ := h.put HN.out hin hkm z8.zr (U := tst T G ρ κ i (k + 1)) (fun a j _ _ => by rw [tst_put HB.out HBK.out, HGK.out])
              have hDi := HD.out i hin
              exact ⟨⟨k + 1, by omega, by go_num, h9, u.put HN.out hin HB.out HBK.out st, Ms.ms (g := D i) st (by omega) x_p, Ms.ms (g := D i) st trivial z_y, Ms.ms (g := D i) st trivial zx, Ms.ms (g := D i) st (by omega) x_f, Ms.ms (g := D i) st trivial z_f, hgf, hb.sto st (.inr (Tch.ar hin))⟩, by simp [intOf]; omega⟩
end Go.Proofs.YtbpamkpclofnbaaGreat
namespace Go.Proofs.YtbpamkpclofnbaaGreat
open Go.RowKit
set_option linter.unusedVariables false
set_option maxRecDepth 100000

section
variable {v : World} {g ge n cap m cm nn c k : Nat} {p : Nat} {R A : Option Addr} {s : Int} {b o : Bool} {pr : List Int}
theorem Mrun1_any (x : Vc v ge 0 (.pointer (some ⟨g, 0, none⟩))) (he : Eb v g R (some ⟨p, 0, none⟩) n cap m cm s b A nn c o) (hi : Bi v p pr) (hp : pr.length = m) (hk : k < m) :
    Calls Tryz.prog 168 #[.int .i64 (k : Int), .pointer (some ⟨ge, 0, none⟩)] v fun e w' => e = .returned (.bool (decide (0 ≤ pr.getD k 0))) ∧ Below v.heap.size v w' := by
  have hkp : k < pr.length := by omega
  have q := x.al; have q1 := he.c1; have q2 := (hi.at_ hkp).al
  have hg : pr.getD k 0 = pr[k] := by simp [List.getD, hkp]
  rw [hg]
  generalize pr[k] = Z at *
  have hb := Below.refl v.heap.size v
  clear hi hg hkp hp
  go_enter Tryz.func168, Tryz.ntmps168
  go_wp2
  go_ret
  exact ⟨rfl, hb⟩
theorem Mtri1_any (x : Vc v ge 0 (.pointer (some ⟨g, 0, none⟩))) (he : Eb v g R (some ⟨p, 0, none⟩) n cap m cm s b A nn c o) :
    Calls Tryz.prog 138 #[.int .i64 (k : Int), .pointer (some ⟨ge, 0, none⟩)] v fun e w' => e = .returned (.bool (decide ((k : Int) ≤ s))) ∧ Below v.heap.size v w' := by
  have q := x.al; have q1 := he.c2
  have hb := Below.refl v.heap.size v
  go_enter Tryz.func138, Tryz.ntmps138
  go_wp2
  go_ret
  exact ⟨rfl, hb⟩
theorem Mcro1_any (x : Vc v ge 0 (.pointer (some ⟨g, 0, none⟩))) (he : Eb v g R (some ⟨p, 0, none⟩) n cap m cm s b A nn c o) :
    Calls Tryz.prog 140 #[.int .i64 (k : Int), .pointer (some ⟨ge, 0, none⟩)] v fun e w' => e = .returned (.bool ((k : Int) == s)) ∧ Below v.heap.size v w' := by
  have q := x.al; have q1 := he.c2
  have hb := Below.refl v.heap.size v
  go_enter Tryz.func140, Tryz.ntmps140
  go_wp2
  go_ret
  exact ⟨rfl, hb⟩
end
end Go.Proofs.YtbpamkpclofnbaaGreat
