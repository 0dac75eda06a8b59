/-
  matrix: exchange.
-/
import Derived.Test.YtbpamkpclofnbaaMbuild
import Derived.Test.YtbpamkpclofnbaaMmul2
import Derived.Test.YtbpamkpclofnbaaVnew
import Derived.Lib.SliceRun
import Derived.BigRegion
namespace Go.Proofs.Ytbpamkpclofnbaa
open Go.RowKit
open MP.Se (nf co)
set_option linter.unusedVariables false
set_option maxRecDepth 100000

theorem Mn.sel {w : World} {A : Option Addr} {n c J k : Nat} {M : List (List Int)} (p : Mn w A n c M J) (hk : k < n) {R : List Int} (hR : M[k]'(by have := p.1; omega) = R) : ∃ d o A' m c', A = some ⟨d, o, none⟩ ∧ Vc w d (o + k) (.slice A' m c') ∧ Pn w A' m c' R J := by
  subst hR; exact p.row hk
theorem Pn.drw' {w : World} {A : Option Addr} {n c J : Nat} {l : List Int} (h : Pn w A n c l J) : Pn w.drew A n c l J := h
theorem RMExact_any {A A2 : Option Addr} {n c n2 c2 J J2 : Nat} {M M2 : List (List Int)} {w : World} (p : Mn w A n c M J) (p2 : Mn w A2 n2 c2 M2 J2) :
    Calls Try.prog 29 #[.slice A n c, .slice A2 n2 c2] w fun e w' => e = .returned (.bool (decide (M = M2))) ∧ Below w.heap.size w w' := by
  have hl := p.1; have hl2 := p2.1
  have hbg := p.2.2.1; have hbg2 := p2.2.2.1
  obtain ⟨β, hβ⟩ : ∃ β, decide (M = M2) = β := ⟨_, rfl⟩
  rw [hβ]
  by_cases hn : n = n2
  · subst hn
    have hend : Hid (M = M2 → β = true) := Lib.hid fun h => by rw [← hβ, decide_eq_true_eq]; exact h
    have hne : Hid (∀ i (h1 : i < M.length) (h2 : i < M2.length), M[i] ≠ M2[i] → β = false) := Lib.hid fun i h1 h2 h => by
      rw [← hβ, decide_eq_false_iff_not]; intro e; subst e; exact h rfl
    have HL := Lib.hid hl; have HL2 := Lib.hid hl2
    have G := Lib.hid p; have G2 := Lib.hid p2
    clear hβ hl hl2 p p2
    go_enter Try.func29, Try.ntmps29
    go_wp2_with fail
    go_loopw [5] (fun kv wr => ∃ i : Nat, i ≤ n ∧ kv = .int .i64 (i : Int) ∧ Hid (∀ j (h1 : j < M.length) (h2 : j < M2.length), j < i → M[j] = M2[j]) ∧ Below w.heap.size w wr) (fun kv _ => n - (intOf kv).toNat)
    case atStart => exact ⟨0, by omega, rfl, Lib.hid fun _ _ _ h => absurd h (by omega), Below.refl _ _⟩
    case round =>
      obtain ⟨i, hi, rfl, heq, hb⟩ := hrel
      rcases (show n = i ∨ i < n by omega) with hin | hin
      · subst hin
        have hte : Hid (β = true) := Lib.hid (hend.out (List.ext_getElem (by rw [HL.out, HL2.out]) fun j h1 h2 => heq.out j h1 h2 (by have := HL.out; omega)))
        clear heq
        go_wp2
        go_ret
        exact ⟨by rw [hte.out]; rfl, hb⟩
      · have hi1 : i < M.length := by have := HL.out; omega
        have hi2 : i < M2.length := by have := HL2.out; omega
        obtain ⟨d, o, A5, n5, c5, rfl, x_e, z⟩ := (G.out.keep hb).row hin
        obtain ⟨d2, o2, A6, n6, c6, rfl, x_f, z2⟩ := (G2.out.keep hb).row hin
        have HNX := Lib.hid (hne.out i hi1 hi2)
        have hnxt : Hid (M[i] = M2[i] → ∀ j (h1 : j < M.length) (h2 : j < M2.length), j < i + 1 → M[j] = M2[j]) := Lib.hid fun e j h1 h2 hj => by
          rcases (show j < i ∨ j = i by omega) with h | h
          · exact heq.out j h1 h2 h
          · subst h; exact e
        clear heq
        generalize M[i] = x at *
        generalize M2[i] = y at *
        have q_e := x_e.al; have q_f := x_f.al
        go_upto_region 6 with fail
        go_region_held3 (fun w' => w'.cell? ⟨d, o + i, none⟩ = some (.slice A5 n5 c5) ∧ w'.cell? ⟨d2, o2 + i, none⟩ = some (.slice A6 n6 c6))
          (first | (with_reducible exact ⟨x_e.c0, x_f.c0⟩) | go_keep)
          (first | (go_at_call 20; (with_reducible refine (RExactAll_any (Pn.drw' z) (Pn.drw' z2)).mono ?_); rintro e v2 ⟨rfl, hb1⟩; replace hb1 := undrew hb1; replace x_e := x_e.keep hb1; replace x_f := x_f.keep hb1; replace hb := bthen hb hb1; clear hb1; replace q_e := x_e.al; replace q_f := x_f.al))
        by_cases hxy : x = y
        · have hq := Lib.hid (hnxt.out hxy)
          have hd9 : decide (x = y) = true := by simpa using hxy
          rw [hd9]
          clear hnxt HNX x_e x_f q_e q_f z z2 hd9 hxy
          go_wp2
          exact ⟨⟨i + 1, by omega, by go_num, hq, hb⟩, by simp [intOf]; omega⟩
        · have hf : Hid (β = false) := Lib.hid (HNX.out hxy)
          have hd9 : decide (x = y) = false := by simpa using hxy
          rw [hd9]
          clear hnxt HNX x_e x_f q_e q_f z z2 hd9 hxy
          go_wp2
          go_ret
          exact ⟨by rw [hf.out]; rfl, hb⟩
  · have hf : Hid (β = false) := Lib.hid (by rw [← hβ, decide_eq_false_iff_not]; intro e; subst e; exact hn (hl.symm.trans hl2))
    have hnn : ((n : Int) != n2) = true := by simp; omega
    clear hβ hl hl2 hn p p2
    go_enter Try.func29, Try.ntmps29
    go_wp2
    go_ret
    exact ⟨by rw [hf.out]; rfl, Below.refl _ _⟩
theorem LMsame_any {A A2 : Option Addr} {n c n2 c2 J J2 : Nat} {M M2 : List (List Int)} {w : World} (p : Mn w A n c M J) (p2 : Mn w A2 n2 c2 M2 J2) :
    Calls Try.prog 9 #[.slice A n c, .slice A2 n2 c2] w fun e w' => e = .returned (.bool (decide (M = M2))) ∧ Below w.heap.size w w' := by
  obtain ⟨β, hβ⟩ : ∃ β, decide (M = M2) = β := ⟨_, rfl⟩
  rw [hβ]
  have HB := Lib.hid hβ; clear hβ
  go_enter Try.func9, Try.ntmps9
  go_wp2_with fail
  with_reducible refine (RMExact_any p p2).mono ?_
  rintro e v1 ⟨rfl, hb⟩
  rw [HB.out]
  go_wp2
  go_ret
  exact ⟨rfl, hb⟩
/-- A slice of slices of integers that came in, of any length. -/
def Ma (w : World) (A : Option Addr) (n c : Nat) (M : List (List Int)) : Prop :=
  M.length = n ∧ n ≤ c ∧ n ≤ 17592186044416 ∧ (0 < n → ∃ d o, A = some ⟨d, o, none⟩ ∧ d < w.heap.size ∧ ∀ k (hk : k < M.length), ∃ A' m c', w.cell? ⟨d, o + k, none⟩ = some (.slice A' m c') ∧ Pa w A' m c' M[k])
theorem Ma.keep {w v : World} {A : Option Addr} {n c : Nat} {M : List (List Int)} (p : Ma w A n c M) (hb : Below w.heap.size w v) : Ma v A n c M := ⟨p.1, p.2.1, p.2.2.1, fun hn => by
  obtain ⟨d, o, e, hd, hc⟩ := p.2.2.2 hn
  refine ⟨d, o, e, Nat.lt_of_lt_of_le hd hb.size, fun k hk => ?_⟩
  obtain ⟨A', m, c', h1, h2⟩ := hc k hk
  exact ⟨A', m, c', (hb.cell (p := ⟨d, o + k, none⟩) hd).trans h1, h2.keep hb⟩⟩
instance {w v : World} {A : Option Addr} {n c : Nat} {M : List (List Int)} : Mv (Ma w A n c M) w v (Ma v A n c M) := ⟨fun x y => x.keep y⟩
theorem Ma.row {w : World} {A : Option Addr} {n c : Nat} {M : List (List Int)} (p : Ma w A n c M) {k : Nat} (hk : k < n) : ∃ d o A' m c', A = some ⟨d, o, none⟩ ∧ Vc w d (o + k) (.slice A' m c') ∧ Pa w A' m c' (M[k]'(by have := p.1; omega)) := by
  obtain ⟨d, o, e, hd, hc⟩ := p.2.2.2 (by omega)
  obtain ⟨A', m, c', h1, h2⟩ := hc k (by have := p.1; omega)
  exact ⟨d, o, A', m, c', e, ⟨hd, h1⟩, h2⟩
/-- What Fits tells. -/
def FiM (w : World) (A : Option Addr) (n c : Nat) (M : List (List Int)) (R C L : Nat) (e : Ending) (w' : World) : Prop :=
  (e = .returned (.bool false) ∨ (e = .returned (.bool true) ∧ n ≤ R ∧ (∀ k (hk : k < M.length), M[k].length ≤ C) ∧ Md w' w'.heap.size A n c M L)) ∧ Below w.heap.size w w'
theorem RMFits_any {A : Option Addr} {n c R C L : Nat} {M : List (List Int)} {w : World} (p : Ma w A n c M) (hR : R ≤ 1000) (hC : C ≤ 1000) (hL : L ≤ 1000) :
    Calls Try.prog 6 #[.slice A n c, .int .i64 (R : Int), .int .i64 (C : Int), .int .i64 (L : Int)] w (FiM w A n c M R C L) := by
  have hl := p.1; have hbg := p.2.2.1
  have HL := Lib.hid hl; have H := Lib.hid p
  clear hl p
  by_cases hn : n ≤ R
  · have hnd : ¬ ((R : Int) < n) := by omega
    have hnd2 : ¬ (R < n) := by omega
    go_enter Try.func6, Try.ntmps6
    go_wp2_with fail
    go_loopw [9] (fun kv wr => ∃ i : Nat, i ≤ n ∧ kv = .int .i64 (i : Int) ∧ Hid (∀ j (hj : j < M.length), j < i → ∀ d o, A = some ⟨d, o, none⟩ → M[j].length ≤ C ∧ ∃ A' m c', w.cell? ⟨d, o + j, none⟩ = some (.slice A' m c') ∧ Pd wr wr.heap.size A' m c' M[j] L) ∧ Below w.heap.size w wr) (fun kv _ => n - (intOf kv).toNat)
    case atStart => exact ⟨0, by omega, rfl, Lib.hid fun _ _ h => absurd h (by omega), Below.refl _ _⟩
    case round =>
      obtain ⟨i, hi, rfl, hel, hb⟩ := hrel
      rcases (show n = i ∨ i < n by omega) with hin | hin
      · subst hin
        have hrows : Hid (∀ k (hk : k < M.length), M[k].length ≤ C) := Lib.hid fun k hk => by
          obtain ⟨d, o, e, _, _⟩ := H.out.2.2.2 (by have := HL.out; omega)
          exact (hel.out k hk (by rw [← HL.out]; exact hk) d o e).1
        have hmd : Hid (Md wr wr.heap.size A n c M L) := Lib.hid ⟨HL.out, H.out.2.1, by omega, fun h0 => by
          obtain ⟨d, o, e, hd, _⟩ := H.out.2.2.2 h0
          refine ⟨d, o, e, Nat.lt_of_lt_of_le hd hb.size, fun k hk => ?_⟩
          obtain ⟨_, A', m, c', h1, h2⟩ := hel.out k hk (by rw [← HL.out]; exact hk) d o e
          exact ⟨A', m, c', (hb.cell (p := ⟨d, o + k, none⟩) hd).trans h1, h2⟩⟩
        clear hel
        go_wp2
        go_ret
        exact ⟨.inr ⟨rfl, hn, hrows.out, hmd.out⟩, hb⟩
      · obtain ⟨d, o, A5, n5, c5, rfl, x_e, z⟩ := (H.out.keep hb).row hin
        obtain ⟨d0, o0, A0, n0, c0, e0, x_0, _⟩ := H.out.row hin
        injection e0 with e0
        injection e0 with e1 e2 e3
        subst e1
        subst e2
        have hsame := (hb.cell (p := ⟨d, o + i, none⟩) x_0.lt).trans x_0.al
        rw [x_e.al] at hsame
        injection hsame with hsame
        injection hsame with s1 s2 s3
        subst s1
        subst s2
        subst s3
        have hil : i < M.length := by rw [HL.out]; exact hin
        have HX0 := Lib.hid x_0
        have hnx : Hid (∀ wz, Below wr.heap.size wr wz → M[i].length ≤ C → Pd wz wz.heap.size A5 n5 c5 M[i] L → ∀ j (hj : j < M.length), j < i + 1 → ∀ d1 o1, some (⟨d, o, none⟩ : Addr) = some ⟨d1, o1, none⟩ → M[j].length ≤ C ∧ ∃ A' m c', w.cell? ⟨d1, o1 + j, none⟩ = some (.slice A' m c') ∧ Pd wz wz.heap.size A' m c' M[j] L) := Lib.hid fun wz hz h1 h2 j hj hji d1 o1 e => by
          rcases (show j < i ∨ j = i by omega) with h | h
          · obtain ⟨g1, A', m, c', g2, g3⟩ := hel.out j hj h d1 o1 e
            exact ⟨g1, A', m, c', g2, g3.go hz⟩
          · subst h
            injection e with e
            injection e with f1 f2
            subst f1
            subst f2
            exact ⟨h1, A5, n5, c5, HX0.out.al, h2⟩
        have hmi : Hid (M[i].length = n5) := Lib.hid z.1
        clear hel x_0
        have q_e := x_e.al
        generalize M[i] = x at *
        go_wp2_with fail
        with_reducible refine (RFits_any z hC hL).mono ?_
        rintro e v2 ⟨β, rfl, h1, hb1⟩
        cases β
        · replace hb := bthen hb hb1
          clear h1 hb1 hnx z
          go_wp2
          go_ret
          exact ⟨.inl rfl, hb⟩
        · obtain ⟨g1, g2⟩ := h1 rfl
          have hn2 := Lib.hid (hnx.out v2 hb1 (by rw [hmi.out]; exact g1) g2)
          replace hb := bthen hb hb1
          clear h1 hb1 hnx z g1 g2 hmi x_e q_e
          go_wp2_with fail
          exact ⟨⟨i + 1, by omega, by go_num, hn2, hb⟩, by simp [intOf]; omega⟩
  · have hnn : (R : Int) < n := by omega
    go_enter Try.func6, Try.ntmps6
    go_wp2
    go_ret
    exact ⟨.inl rfl, Below.refl _ _⟩
end Go.Proofs.Ytbpamkpclofnbaa
namespace Go.Proofs.Ytbpamkpclofnbaa
open Go.RowKit
open MP.Se (nf co)
set_option linter.unusedVariables false
set_option maxRecDepth 100000

/-- A matrix that is built is right. -/
theorem mo2_rt {f : Nat → Nat → Int} {n m : Nat} (hn : 0 < n) (hm : 0 < m) : Rt (mo2 f n m) n m := ⟨mo2_len f n m, hn, hm, fun k hk => by rw [mo2_row hk]; simp⟩
theorem mo2_ext {f g : Nat → Nat → Int} {n m : Nat} (h : ∀ i k, i < n → k < m → f i k = g i k) : mo2 f n m = mo2 g n m := List.map_congr_left fun i hi => List.map_congr_left fun k hk => h i k (List.mem_range.1 hi) (List.mem_range.1 hk)
theorem mx_mo2 {f : Nat → Nat → Int} {n m i k : Nat} (hi : i < n) (hk : k < m) : mx (mo2 f n m) i k = f i k := by
  have h1 : i < (mo2 f n m).length := by rw [mo2_len]; exact hi
  rw [mx_at h1 (by rw [mo2_row h1]; simpa using hk)]
  simp [mo2]
theorem Rt.row_len {M : List (List Int)} {n m k : Nat} (h : Rt M n m) (hk : k < n) : (M[k]'(by rw [h.1]; exact hk)).length = m := h.2.2.2 k _
theorem Rt.sq {M : List (List Int)} {n m : Nat} (h : Rt M n m) : Rt M n n ↔ n = m := ⟨fun h2 => (h2.uni h).2, fun e => by subst e; exact h⟩
/-- How many columns a right matrix has: not more than its rows have room for. -/
theorem Rt.wide {M : List (List Int)} {n m C : Nat} (h : Rt M n m) (hc : ∀ k (hk : k < M.length), M[k].length ≤ C) : m ≤ C := by
  have h3 : 0 < M.length := by rw [h.1]; exact h.2.1
  rw [← h.2.2.2 0 h3]; exact hc 0 h3
end Go.Proofs.Ytbpamkpclofnbaa
namespace Go.Proofs.Ytbpamkpclofnbaa
open Go.RowKit
set_option linter.unusedVariables false
set_option maxRecDepth 100000

/-- Block g is a slice's of n slices, with room for cap. -/
def Oy (w : World) (g n cap : Nat) (xs : List Value) : Prop :=
  ∃ cur : Array Value, w.heap[g]? = some (.cells cur 35 (0, 0)) ∧ n ≤ cap ∧ cap ≤ maxLen ∧ cur.size = cap ∧ cur.toList.take (n) = xs ∧ xs.length = n ∧ Kd cur.toList
section
variable {w w' : World} {g n cap : Nat} {xs : List Value}
theorem Oy.lt (h : Oy w g n cap xs) : g < w.heap.size := by
  obtain ⟨cur, h, _⟩ := h
  exact (Array.getElem?_eq_some_iff.1 h).1
theorem Oy.to (h : Oy w g n cap xs) (hb : w'.heap[g]? = w.heap[g]?) : Oy w' g n cap xs := by
  obtain ⟨cur, h, hc⟩ := h
  exact ⟨cur, hb.trans h, hc⟩
theorem Oy.keep (h : Oy w g n cap xs) (hb : Below w.heap.size w w') : Oy w' g n cap xs := h.to (hb.block g h.lt)
instance Oy.mv {v w : World} : Mv (Oy v g n cap xs) v w (Oy w g n cap xs) := ⟨fun h hb => Oy.keep h hb⟩
theorem Oy.alloc (h : Oy w g n cap xs) (o : Obj) : Oy (w.alloc o) g n cap xs := h.to (Below.heap_alloc w o g h.lt)
theorem Oy.drw (h : Oy w g n cap xs) : Oy w.drew g n cap xs := h
theorem Oy.far (h : Oy w g n cap xs) {z : Addr} (hp : g ≠ z.block) (u : Value) : Oy (w.setCell z u) g n cap xs := h.to (Below.heap_setCell w z u g hp)
theorem Oy.by_ {k : Nat} (h : Oy w g n cap xs) (hg : w.grownBy w' (some k)) (hne : g ≠ k) : Oy w' g n cap xs := h.to (hg.block g h.lt (fun e => by injection e with e; exact hne e))
theorem Oy.cell (h : Oy w g n cap xs) (i : Nat) (u : Value) (hu : w.cell? ⟨g, i, none⟩ = some u) : ∀ x, u ≠ .int .u64 x := by
  obtain ⟨cur, h, _, _, _, _, _, hk⟩ := h
  rw [cell_of_row w g i _ _ (0, 0) h] at hu
  exact hk u (by have := Array.mem_of_getElem? hu; simpa using this)
end
theorem kd_one (A : Option Addr) (m c : Nat) : Kd [.slice A m c] := fun u hu x => by
  simp at hu
  subst hu
  simp
theorem one_cell {w : World} {g0 : Nat} {A : Option Addr} {m c : Nat} (h0 : w.cell? ⟨g0, 0, none⟩ = some (.slice A m c)) :
    ∀ j u, [Value.slice A m c][j]? = some u → w.cell? ((⟨g0, 0, none⟩ : Addr).add j) = some u := by
  intro j u hj
  match j, hj with
  | 0, hj => simp at hj; subst hj; simpa [Addr.add] using h0
theorem kd_zeroR (m : Nat) : Kd (Builtin.zeroCells #[Value.slice none 0 0] m).toList := by
  intro u hu x
  simp only [Builtin.zeroCells, Array.toList_map, List.mem_map] at hu
  obtain ⟨i, _, rfl⟩ := hu
  simp [Nat.mod_one]
theorem run_pushN0 (w : World) (ty : TypeId) {g0 : Nat} {A : Option Addr} {m c : Nat} (h0 : w.cell? ⟨g0, 0, none⟩ = some (.slice A m c)) :
    ∃ cap w', (Builtin.append_ #[22, 22] ty #[.slice none 0 0, .slice (some ⟨g0, 0, none⟩) 1 1]).run Try.prog w = .ok (.slice (some ⟨w.heap.size, 0, none⟩) 1 cap) w' ∧ Oy w' w.heap.size 1 cap [.slice A m c] ∧ Below w.heap.size w w' := by
  obtain ⟨i0, hi, hz0, hz1, hz2⟩ := info_parts Try.infoR
  have hr := run_append_nil (P := Try.prog) w 22 ty 35 i0 _ Try.underlying22 hi hz0 ⟨g0, 0, none⟩ 1 1 [.slice A m c] (by rw [hz1]; rfl) (one_cell h0) (by omega) (by omega) (by rw [hz2]; omega)
  have hge := grownCap_ge w 1 0 35
  refine ⟨_, _, hr, ⟨_, heap_alloc_new w.drew _, hge, grownCap_le_maxLen w 1 0 _ (by unfold maxLen; omega), ?_, ?_, rfl, ?_⟩, (below_drew (Below.refl w.heap.size w)).alloc (Nat.le_refl _) _⟩
  · simp only [Array.size_append, List.size_toArray, size_zeroCells]
    simp [Value.cells]
    omega
  · simp
  · rw [Array.toList_append]
    exact kd_app (kd_one A m c) (kd_zeroR _)
theorem run_pushN (w : World) (ty : TypeId) {g n cap : Nat} {xs : List Value} (h : Oy w g n cap xs) (hn : n ≤ 1000) {g0 : Nat} {A : Option Addr} {m c : Nat} (h0 : w.cell? ⟨g0, 0, none⟩ = some (.slice A m c)) :
    ∃ g' cap' w', (Builtin.append_ #[22, 22] ty #[.slice (some ⟨g, 0, none⟩) n cap, .slice (some ⟨g0, 0, none⟩) 1 1]).run Try.prog w = .ok (.slice (some ⟨g', 0, none⟩) (n + 1) cap') w' ∧ Oy w' g' (n + 1) cap' (xs ++ [.slice A m c]) ∧ w.grownBy w' (some g) ∧ (g' = g ∨ g' = w.heap.size) := by
  obtain ⟨i0, hi, hz0, hz1, hz2⟩ := info_parts Try.infoR
  obtain ⟨cur, hh, hnc, hcm, hcs, htk, hxl, hk⟩ := h
  by_cases hroom : n + 1 ≤ cap
  · have hr := run_append_room (P := Try.prog) w 22 ty 35 i0 Try.underlying22 hi g n cap cur hh ⟨g0, 0, none⟩ 1 1 [.slice A m c] (by rw [hz1]; rfl) (one_cell h0) (fun u hu => by simp at hu; subst hu; rfl) hroom (by rw [hz1, hcs]; simp; omega)
    simp only [hz1, Nat.mul_one] at hr
    refine ⟨g, cap, _, hr, ⟨_, setRow_heap w g cur _ _ _ hh, hroom, hcm, ?_, ?_, by simp [hxl], ?_⟩, ⟨rfl, rfl, rfl, by simp [World.setRow], fun k _ hk => setRow_other w g k _ (fun e => hk (by rw [e]))⟩, .inl rfl⟩
    · simp [hcs]
      omega
    · rw [htk, show n + 1 = (xs ++ [Value.slice A m c]).length by simp [hxl]]
      exact List.take_left
    · refine kd_app (kd_app ?_ (kd_one A m c)) ?_
      · exact fun u hu x => hk u (List.mem_of_mem_take hu) x
      · exact fun u hu x => hk u (List.mem_of_mem_drop hu) x
  · have hxk : Kd xs := fun u hu x => hk u (List.mem_of_mem_take (by rw [htk]; exact hu)) x
    have hr := run_append_grow (P := Try.prog) w 22 ty 35 i0 _ Try.underlying22 hi hz0 ⟨g, 0, none⟩ n cap xs (by rw [hz1, Nat.mul_one]; exact hxl) (fun j u hj => by
        have hjl : j < xs.length := (List.getElem?_eq_some_iff.1 hj).1
        have hcj : w.cell? ⟨g, j, none⟩ = some u := by
          rw [cell_of_row w g j _ _ (0, 0) hh, ← hj, ← htk, List.getElem?_take_of_lt (by omega)]
          simp
        unfold Addr.add
        by_cases hj0 : j = 0
        · subst hj0; simpa using hcj
        · simpa [hj0] using hcj) ⟨g0, 0, none⟩ 1 1 [.slice A m c] (by rw [hz1]; rfl) (one_cell h0) (by omega) (by omega) (growslice_fits (by omega) (by rw [hz2]; omega))
    have hge := grownCap_ge w (n + 1) cap 35
    refine ⟨_, _, _, hr, ⟨_, heap_alloc_new w.drew _, hge, grownCap_le_maxLen w (n + 1) cap _ (by unfold maxLen; omega), ?_, ?_, by simp [hxl], ?_⟩, ⟨rfl, rfl, rfl, by simp, fun k hk _ => heap_alloc_old w.drew _ hk⟩, .inr rfl⟩
    · simp only [Array.size_append, List.size_toArray, size_zeroCells]
      simp [Value.cells, hxl]
      omega
    · simp only [Array.toList_append, List.append_assoc]
      rw [← List.append_assoc, show n + 1 = (xs ++ [Value.slice A m c]).length by simp [hxl]]
      exact List.take_left
    · simp only [Array.toList_append]
      exact kd_app (kd_app hxk (kd_one A m c)) (kd_zeroR _)
/-- What append does, at the operation: onto nothing, onto some. -/
theorem wpo_pushN0 {W : World} {o : Oper} {a : Act} {K : Act → World → Prop} {Q : Exit → Act → World → Prop} (s x : Operand)
    (hop : o.op = .call { callee := .builtin .append, args := #[s, x], argTypes := #[22, 22] }) (hs : a.eval s = .slice none 0 0)
    {g0 : Nat} {A : Option Addr} {m c : Nat} (hx : a.eval x = .slice (some ⟨g0, 0, none⟩) 1 1) (h0 : W.cell? ⟨g0, 0, none⟩ = some (.slice A m c))
    (hK : ∀ cap w', Oy w' W.heap.size 1 cap [.slice A m c] → Below W.heap.size W w' → K (a.put o.dst (.slice (some ⟨W.heap.size, 0, none⟩) 1 cap)) w') : o.wp Try.prog a W K Q := by
  obtain ⟨cap, w', hr, h2, h3⟩ := run_pushN0 W o.type h0
  unfold Oper.wp execOp
  simp only [hop, resolve, invoke, builtin, Sem.run_bind, Sem.run_pure, Result.andThen_ok, List.map_toArray, List.map_cons, List.map_nil, hs, hx, hr]
  exact hK _ _ h2 h3
theorem wpo_pushN {W : World} {o : Oper} {a : Act} {K : Act → World → Prop} {Q : Exit → Act → World → Prop} (s x : Operand)
    (hop : o.op = .call { callee := .builtin .append, args := #[s, x], argTypes := #[22, 22] }) {g n cap : Nat} {xs : List Value} (hs : a.eval s = .slice (some ⟨g, 0, none⟩) n cap) (h : Oy W g n cap xs) (hn : n ≤ 1000)
    {g0 : Nat} {A : Option Addr} {m c : Nat} (hx : a.eval x = .slice (some ⟨g0, 0, none⟩) 1 1) (h0 : W.cell? ⟨g0, 0, none⟩ = some (.slice A m c))
    (hK : ∀ g' cap' w', Oy w' g' (n + 1) cap' (xs ++ [.slice A m c]) → W.grownBy w' (some g) → (g' = g ∨ g' = W.heap.size) → K (a.put o.dst (.slice (some ⟨g', 0, none⟩) (n + 1) cap')) w') : o.wp Try.prog a W K Q := by
  obtain ⟨g', cap', w', hr, h2, h3, h4⟩ := run_pushN W o.type h hn h0
  unfold Oper.wp execOp
  simp only [hop, resolve, invoke, builtin, Sem.run_bind, Sem.run_pure, Result.andThen_ok, List.map_toArray, List.map_cons, List.map_nil, hs, hx, hr]
  exact hK _ _ _ h2 h3 h4
theorem step_pushN0 {W : World} {ops : Array Oper} {o : Oper} {a : Act} {K : Act → World → Prop} {Q : Exit → Act → World → Prop} {E : Prop} (hgd : o.guard = none) (s x : Operand)
    (hop : o.op = .call { callee := .builtin .append, args := #[s, x], argTypes := #[22, 22] }) (hs : a.eval s = .slice none 0 0)
    {g0 : Nat} {A : Option Addr} {m c : Nat} (hx : a.eval x = .slice (some ⟨g0, 0, none⟩) 1 1) (h0 : W.cell? ⟨g0, 0, none⟩ = some (.slice A m c))
    (hK : ∀ cap w', Oy w' W.heap.size 1 cap [.slice A m c] → Below W.heap.size W w' → K (a.put o.dst (.slice (some ⟨W.heap.size, 0, none⟩) 1 cap)) w') :
    if Region.wanted o (yielded ops a.tmps) = true then Oper.wp Try.prog o a W K Q else E := by
  rw [if_pos (by simp [Region.wanted, hgd])]
  exact wpo_pushN0 s x hop hs hx h0 hK
theorem step_pushN {W : World} {ops : Array Oper} {o : Oper} {a : Act} {K : Act → World → Prop} {Q : Exit → Act → World → Prop} {E : Prop} (hgd : o.guard = none) (s x : Operand)
    (hop : o.op = .call { callee := .builtin .append, args := #[s, x], argTypes := #[22, 22] }) {g n cap : Nat} {xs : List Value} (hs : a.eval s = .slice (some ⟨g, 0, none⟩) n cap) (h : Oy W g n cap xs) (hn : n ≤ 1000)
    {g0 : Nat} {A : Option Addr} {m c : Nat} (hx : a.eval x = .slice (some ⟨g0, 0, none⟩) 1 1) (h0 : W.cell? ⟨g0, 0, none⟩ = some (.slice A m c))
    (hK : ∀ g' cap' w', Oy w' g' (n + 1) cap' (xs ++ [.slice A m c]) → W.grownBy w' (some g) → (g' = g ∨ g' = W.heap.size) → K (a.put o.dst (.slice (some ⟨g', 0, none⟩) (n + 1) cap')) w') :
    if Region.wanted o (yielded ops a.tmps) = true then Oper.wp Try.prog o a W K Q else E := by
  rw [if_pos (by simp [Region.wanted, hgd])]
  exact wpo_pushN s x hop hs h hn hx h0 hK
theorem wp_pushN0 {W : World} {ops : Array Oper} {rest : List Oper} {o : Oper} {a : Act} {Q : Exit → Act → World → Prop} (hgd : o.guard = none) (s x : Operand)
    (hop : o.op = .call { callee := .builtin .append, args := #[s, x], argTypes := #[22, 22] }) (hs : a.eval s = .slice none 0 0)
    {g0 : Nat} {A : Option Addr} {m c : Nat} (hx : a.eval x = .slice (some ⟨g0, 0, none⟩) 1 1) (h0 : W.cell? ⟨g0, 0, none⟩ = some (.slice A m c))
    (hK : ∀ cap w', Oy w' W.heap.size 1 cap [.slice A m c] → Below W.heap.size W w' → wpList Try.prog ops Q rest (a.put o.dst (.slice (some ⟨W.heap.size, 0, none⟩) 1 cap)) w') : wpList Try.prog ops Q (o :: rest) a W :=
  wpList_plain hgd fun K hK2 => wpo_pushN0 s x hop hs hx h0 fun cap w' h2 h3 => hK2 _ _ (hK cap w' h2 h3)
theorem wp_pushN {W : World} {ops : Array Oper} {rest : List Oper} {o : Oper} {a : Act} {Q : Exit → Act → World → Prop} (hgd : o.guard = none) (s x : Operand)
    (hop : o.op = .call { callee := .builtin .append, args := #[s, x], argTypes := #[22, 22] }) {g n cap : Nat} {xs : List Value} (hs : a.eval s = .slice (some ⟨g, 0, none⟩) n cap) (h : Oy W g n cap xs) (hn : n ≤ 1000)
    {g0 : Nat} {A : Option Addr} {m c : Nat} (hx : a.eval x = .slice (some ⟨g0, 0, none⟩) 1 1) (h0 : W.cell? ⟨g0, 0, none⟩ = some (.slice A m c))
    (hK : ∀ g' cap' w', Oy w' g' (n + 1) cap' (xs ++ [.slice A m c]) → W.grownBy w' (some g) → (g' = g ∨ g' = W.heap.size) → wpList Try.prog ops Q rest (a.put o.dst (.slice (some ⟨g', 0, none⟩) (n + 1) cap')) w') : wpList Try.prog ops Q (o :: rest) a W :=
  wpList_plain hgd fun K hK2 => wpo_pushN s x hop hs h hn hx h0 fun g' cap' w' h2 h3 h4 => hK2 _ _ (hK g' cap' w' h2 h3 h4)


/-- The value s is a slice of these slices: nil for none, else in a block of its own from B on. -/
def Gm (w : World) (B : Nat) (s : Value) (cs : List Value) : Prop :=
  (s = .slice none 0 0 ∧ cs = []) ∨ ∃ g cap, s = .slice (some ⟨g, 0, none⟩) cs.length cap ∧ B ≤ g ∧ Oy w g cs.length cap cs
section
variable {w w' : World} {B : Nat} {s s' t : Value} {cs : List Value}
theorem Gm.nil (w : World) (B : Nat) : Gm w B (.slice none 0 0) [] := .inl ⟨rfl, rfl⟩
theorem Gm.keep (h : Gm w B s cs) (hb : Below w.heap.size w w') : Gm w' B s cs := by
  rcases h with h | ⟨g, cap, h1, h2, h3⟩
  · exact .inl h
  · exact .inr ⟨g, cap, h1, h2, h3.keep hb⟩
instance Gm.mv {v w : World} : Mv (Gm v B s cs) v w (Gm w B s cs) := ⟨fun h hb => Gm.keep h hb⟩
theorem Gm.lt (h : Gm w B s cs) {k : Nat} (hk : s.ownBlock = some k) : B ≤ k ∧ k < w.heap.size := by
  rcases h with ⟨rfl, _⟩ | ⟨g, cap, rfl, h2, h3⟩
  · simp [Value.ownBlock] at hk
  · simp [Value.ownBlock] at hk
    subst hk
    exact ⟨h2, h3.lt⟩
theorem Gm.ne (h : Gm w B s cs) {k : Nat} (hk : k < B ∨ w.heap.size ≤ k) : s.ownBlock ≠ some k := fun e => by
  have := h.lt e
  omega
theorem Gm.sto {g : Nat} (h : Gm w B s cs) (hne : s.ownBlock ≠ some g) (hs : Sto w g w') : Gm w' B s cs := by
  rcases h with h | ⟨k, cap, rfl, h2, h3⟩
  · exact .inl h
  · exact .inr ⟨k, cap, rfl, h2, h3.to (hs.block _ (fun e => hne (by rw [e]; rfl)))⟩
/-- A block that no limb lies in may be turned: the limbs stay. -/
theorem Rd.byY {g n cap m c : Nat} {xs : List Value} {A : Option Addr} {l : List Int} (z : Rd w w.heap.size A m c l) (h : Oy w g n cap xs) (hg : w.grownBy w' (some g)) : Rd w' w'.heap.size A m c l := by
  refine ⟨z.1, z.2.1, z.2.2.1, z.2.2.2.1, fun hn => ?_⟩
  obtain ⟨d, off, e, hd, hc⟩ := z.at_ hn
  have hne : d ≠ g := fun e2 => by
    subst e2
    have h0 := hc 0 (by have := z.len; omega)
    exact h.cell _ _ h0 _ rfl
  refine ⟨d, off, e, Nat.lt_of_lt_of_le hd hg.size, fun k hk => ?_⟩
  rw [← hc k hk]
  exact World.cell?_of_block (hg.block d hd (fun e => by injection e with e; exact hne e))
/-- What an append of the slice u onto s has made. -/
def Pm (V : World) (B : Nat) (s : Value) (cs : List Value) (u : Value) (s' : Value) (w' : World) : Prop := Gm w' B s' (cs ++ [u]) ∧ Gr s V w' ∧ Nw V s s'
theorem Gr.belowM {A : Nat} {w0 : World} (hb : Below A w0 w) (hs : A ≤ w.heap.size) (h : Gm w B s cs) (hg : Gr s w w') (hB : A ≤ B) : Below A w0 w' :=
  ⟨hg.grown.os.trans hb.os, hg.grown.tape.trans hb.tape, hg.grown.output.trans hb.output, Nat.le_trans hb.size hg.grown.size, fun k hk => (hg.at_ (Nat.lt_of_lt_of_le hk hs) (h.ne (.inl (by omega)))).trans (hb.block k hk)⟩
end
theorem gm_new {v : World} {B g : Nat} (x : v.heap[g]? = some (.cells #[] 35 (0, 0))) (hB : B ≤ g) : Gm v B (.slice (some ⟨g, 0, none⟩) 0 0) [] :=
  .inr ⟨_, 0, rfl, hB, ⟨#[], x, Nat.le_refl _, by unfold maxLen; omega, rfl, rfl, rfl, fun u hu => by cases hu⟩⟩
theorem run_pushM (V : World) (ty : TypeId) {B m c : Nat} {s : Value} {cs : List Value} {A : Option Addr} (h : Gm V B s cs) (hn : cs.length ≤ 1000) (hB : B ≤ V.heap.size) :
    ∃ s' w', (Builtin.append_ #[22, 22] ty #[s, .slice (some ⟨V.heap.size, 0, none⟩) 1 1]).run Try.prog (V.alloc (.cells #[.slice A m c] 35)) = .ok s' w' ∧ Pm V B s cs (.slice A m c) s' w' := by
  have hx : Vc (V.alloc (.cells #[.slice A m c] 35)) V.heap.size 0 (.slice A m c) := Vc.of (heap_alloc_new V _)
  have hsz : (V.alloc (.cells #[.slice A m c] 35)).heap.size = V.heap.size + 1 := by simp
  rcases h with ⟨rfl, rfl⟩ | ⟨g, cap, rfl, hg, ho⟩
  · obtain ⟨cap, w', hr, h2, h3⟩ := run_pushN0 (V.alloc (.cells #[.slice A m c] 35)) ty hx.al
    have hb := bthen (below_alloc V _) h3
    rw [hsz] at h2 hr
    exact ⟨_, _, hr, .inr ⟨_, cap, rfl, by omega, h2⟩, ⟨⟨hb.os, hb.tape, hb.output, hb.size, fun k hk _ => hb.block k hk⟩, fun _ _ _ _ h => h.go hb⟩, .inr ⟨V.heap.size + 1, by omega, rfl⟩⟩
  · obtain ⟨g', cap', w', hr, h2, h3, h4⟩ := run_pushN (V.alloc (.cells #[.slice A m c] 35)) ty (ho.alloc _) hn hx.al
    have hG : Gr (.slice (some ⟨g, 0, none⟩) cs.length cap) (V.alloc (.cells #[.slice A m c] 35)) w' := ⟨h3, fun _ _ _ _ h => h.byY (ho.alloc _) h3⟩
    have e : (cs ++ [Value.slice A m c]).length = cs.length + 1 := by simp
    refine ⟨_, _, hr, .inr ⟨g', cap', by rw [e], ?_, by rw [e]; exact h2⟩, hG.alloc, ?_⟩
    · rcases h4 with rfl | rfl
      · exact hg
      · omega
    · rcases h4 with rfl | rfl
      · exact .inl rfl
      · exact .inr ⟨_, Nat.le_trans (Nat.le_succ _) (Nat.le_of_eq hsz.symm), rfl⟩
theorem wpo_pushM {V : World} {o : Oper} {a : Act} {K : Act → World → Prop} {Q : Exit → Act → World → Prop} (s x : Operand)
    (hop : o.op = .call { callee := .builtin .append, args := #[s, x], argTypes := #[22, 22] }) {v : Value} (hs : a.eval s = v)
    {B m c : Nat} {cs : List Value} {A : Option Addr} (h : Gm V B v cs) (hn : cs.length ≤ 1000) (hB : B ≤ V.heap.size) (hx : a.eval x = .slice (some ⟨V.heap.size, 0, none⟩) 1 1)
    (hK : ∀ s' w', Pm V B v cs (.slice A m c) s' w' → K (a.put o.dst s') w') : o.wp Try.prog a (V.alloc (.cells #[.slice A m c] 35)) K Q := by
  obtain ⟨s', w', hr, h2⟩ := run_pushM (A := A) (m := m) (c := c) V o.type h hn hB
  unfold Oper.wp execOp
  simp only [hop, resolve, invoke, builtin, Sem.run_bind, Sem.run_pure, Result.andThen_ok, List.map_toArray, List.map_cons, List.map_nil, hs, hx, hr]
  exact hK _ _ h2
theorem step_pushM {V : World} {ops : Array Oper} {o : Oper} {a : Act} {K : Act → World → Prop} {Q : Exit → Act → World → Prop} {E : Prop} (hgd : o.guard = none) (s x : Operand)
    (hop : o.op = .call { callee := .builtin .append, args := #[s, x], argTypes := #[22, 22] }) {v : Value} (hs : a.eval s = v)
    {B m c : Nat} {cs : List Value} {A : Option Addr} (h : Gm V B v cs) (hn : cs.length ≤ 1000) (hB : B ≤ V.heap.size) (hx : a.eval x = .slice (some ⟨V.heap.size, 0, none⟩) 1 1)
    (hK : ∀ s' w', Pm V B v cs (.slice A m c) s' w' → K (a.put o.dst s') w') :
    if Region.wanted o (yielded ops a.tmps) = true then Oper.wp Try.prog o a (V.alloc (.cells #[.slice A m c] 35)) K Q else E := by
  rw [if_pos (by simp [Region.wanted, hgd])]
  exact wpo_pushM s x hop hs h hn hB hx hK
theorem wp_pushM {V : World} {ops : Array Oper} {rest : List Oper} {o : Oper} {a : Act} {Q : Exit → Act → World → Prop} (hgd : o.guard = none) (s x : Operand)
    (hop : o.op = .call { callee := .builtin .append, args := #[s, x], argTypes := #[22, 22] }) {v : Value} (hs : a.eval s = v)
    {B m c : Nat} {cs : List Value} {A : Option Addr} (h : Gm V B v cs) (hn : cs.length ≤ 1000) (hB : B ≤ V.heap.size) (hx : a.eval x = .slice (some ⟨V.heap.size, 0, none⟩) 1 1)
    (hK : ∀ s' w', Pm V B v cs (.slice A m c) s' w' → wpList Try.prog ops Q rest (a.put o.dst s') w') : wpList Try.prog ops Q (o :: rest) a (V.alloc (.cells #[.slice A m c] 35)) :=
  wpList_plain hgd fun K hK2 => wpo_pushM s x hop hs h hn hB hx fun s' w' h2 => hK2 _ _ (hK s' w' h2)
end Go.Proofs.Ytbpamkpclofnbaa
namespace Go.Proofs.Ytbpamkpclofnbaa
open Go.RowKit
open MP.Se (nf co)
set_option linter.unusedVariables false
set_option maxRecDepth 100000

theorem run_pushZ0I (w : World) (ty : TypeId) {g0 : Nat} {b : Bool} {A : Option Addr} {m c : Nat} (h0 : w.cell? ⟨g0, 0, none⟩ = some (.bool b)) (h1 : w.cell? ⟨g0, 1, none⟩ = some (.slice A m c)) :
    ∃ cap w', (Builtin.append_ #[35, 35] ty #[.slice none 0 0, .slice (some ⟨g0, 0, none⟩) 1 1]).run Try.prog w = .ok (.slice (some ⟨w.heap.size, 0, none⟩) 1 cap) w' ∧ Oz w' w.heap.size 1 cap [.bool b, .slice A m c] ∧ Below w.heap.size w w' := by
  obtain ⟨i0, hi, hz0, hz1, hz2⟩ := info_parts Try.infoI
  have hr := run_append_nil (P := Try.prog) w 35 ty 32 i0 _ Try.underlying35 hi hz0 ⟨g0, 0, none⟩ 1 1 [.bool b, .slice A m c] (by rw [hz1]; rfl) (two_cells h0 h1) (by omega) (by omega) (by rw [hz2]; omega)
  have hge := grownCap_ge w 1 0 32
  refine ⟨_, _, hr, ⟨_, heap_alloc_new w.drew _, hge, grownCap_le_maxLen w 1 0 _ (by unfold maxLen; omega), ?_, ?_, rfl, ?_⟩, (below_drew (Below.refl w.heap.size w)).alloc (Nat.le_refl _) _⟩
  · simp only [Array.size_append, List.size_toArray, size_zeroCells]
    simp [Value.cells]
    omega
  · simp
  · rw [Array.toList_append]
    exact kd_app (kd_two b A m c) (kd_zero _)
theorem run_pushZI (w : World) (ty : TypeId) {g n cap : Nat} {xs : List Value} (h : Oz w g n cap xs) (hn : n ≤ 1000) {g0 : Nat} {b : Bool} {A : Option Addr} {m c : Nat} (h0 : w.cell? ⟨g0, 0, none⟩ = some (.bool b)) (h1 : w.cell? ⟨g0, 1, none⟩ = some (.slice A m c)) :
    ∃ g' cap' w', (Builtin.append_ #[35, 35] ty #[.slice (some ⟨g, 0, none⟩) n cap, .slice (some ⟨g0, 0, none⟩) 1 1]).run Try.prog w = .ok (.slice (some ⟨g', 0, none⟩) (n + 1) cap') w' ∧ Oz w' g' (n + 1) cap' (xs ++ [.bool b, .slice A m c]) ∧ w.grownBy w' (some g) ∧ (g' = g ∨ g' = w.heap.size) := by
  obtain ⟨i0, hi, hz0, hz1, hz2⟩ := info_parts Try.infoI
  obtain ⟨cur, hh, hnc, hcm, hcs, htk, hxl, hk⟩ := h
  by_cases hroom : n + 1 ≤ cap
  · have hr := run_append_room (P := Try.prog) w 35 ty 32 i0 Try.underlying35 hi g n cap cur hh ⟨g0, 0, none⟩ 1 1 [.bool b, .slice A m c] (by rw [hz1]; rfl) (two_cells h0 h1) (fun u hu => by simp at hu; rcases hu with rfl | rfl <;> rfl) hroom (by rw [hz1, hcs]; simp; omega)
    rw [hz1] at hr
    refine ⟨g, cap, _, hr, ⟨_, setRow_heap w g cur _ _ _ hh, hroom, hcm, ?_, ?_, by simp [hxl]; omega, ?_⟩, ⟨rfl, rfl, rfl, by simp [World.setRow], fun k _ hk => setRow_other w g k _ (fun e => hk (by rw [e]))⟩, .inl rfl⟩
    · simp [hcs]
      omega
    · rw [htk, show (n + 1) * 2 = (xs ++ [Value.bool b, Value.slice A m c]).length by simp [hxl]; omega]
      exact List.take_left
    · refine kd_app (kd_app ?_ (kd_two b A m c)) ?_
      · exact fun u hu x => hk u (List.mem_of_mem_take hu) x
      · exact fun u hu x => hk u (List.mem_of_mem_drop hu) x
  · have hxk : Kd xs := fun u hu x => hk u (List.mem_of_mem_take (by rw [htk]; exact hu)) x
    have hr := run_append_grow (P := Try.prog) w 35 ty 32 i0 _ Try.underlying35 hi hz0 ⟨g, 0, none⟩ n cap xs (by rw [hz1]; exact hxl) (fun j u hj => by
        have hjl : j < xs.length := (List.getElem?_eq_some_iff.1 hj).1
        have hcj : w.cell? ⟨g, j, none⟩ = some u := by
          rw [cell_of_row w g j _ _ (0, 0) hh, ← hj, ← htk, List.getElem?_take_of_lt (by omega)]
          simp
        unfold Addr.add
        by_cases hj0 : j = 0
        · subst hj0; simpa using hcj
        · simpa [hj0] using hcj) ⟨g0, 0, none⟩ 1 1 [.bool b, .slice A m c] (by rw [hz1]; rfl) (two_cells h0 h1) (by omega) (by omega) (growslice_fits (by omega) (by rw [hz2]; omega))
    have hge := grownCap_ge w (n + 1) cap 32
    refine ⟨_, _, _, hr, ⟨_, heap_alloc_new w.drew _, hge, grownCap_le_maxLen w (n + 1) cap _ (by unfold maxLen; omega), ?_, ?_, by simp [hxl]; omega, ?_⟩, ⟨rfl, rfl, rfl, by simp, fun k hk _ => heap_alloc_old w.drew _ hk⟩, .inr rfl⟩
    · simp only [Array.size_append, List.size_toArray, size_zeroCells]
      simp [Value.cells, hxl]
      omega
    · simp only [Array.toList_append, List.append_assoc]
      rw [← List.append_assoc, show (n + 1) * 2 = (xs ++ [Value.bool b, Value.slice A m c]).length by simp [hxl]; omega]
      exact List.take_left
    · simp only [Array.toList_append]
      exact kd_app (kd_app hxk (kd_two b A m c)) (kd_zero _)
/-- What append does, at the operation: onto nothing, onto some. -/
theorem run_pushGI (V : World) (ty : TypeId) {B J m c : Nat} {s : Value} {l : List Int} {A : Option Addr} {X : Int} (h : Gz V B J s l) (hn : l.length ≤ 1000) (hB : B ≤ V.heap.size) (z : Zn V A m c X J) :
    ∃ s' w', (Builtin.append_ #[35, 35] ty #[s, .slice (some ⟨V.heap.size, 0, none⟩) 1 1]).run Try.prog (V.alloc (.cells #[.bool (ngB X), .slice A m c] 32)) = .ok s' w' ∧ Pu V B J s l X s' w' := by
  have hx := Bx.new V (ngB X) A m c
  have hsz : (V.alloc (.cells #[.bool (ngB X), .slice A m c] 32)).heap.size = V.heap.size + 1 := by simp
  rcases h with ⟨rfl, rfl⟩ | ⟨g, cap, xs, rfl, hg, ho, hc⟩
  · obtain ⟨cap, w', hr, h2, h3⟩ := run_pushZ0I (V.alloc (.cells #[.bool (ngB X), .slice A m c] 32)) ty hx.c0 hx.c1
    have hb := bthen (below_alloc V _) h3
    rw [hsz] at h2 hr
    exact ⟨_, _, hr, .inr ⟨_, cap, _, rfl, by omega, h2, ⟨A, m, c, [], rfl, z.keep hb, rfl⟩⟩, ⟨⟨hb.os, hb.tape, hb.output, hb.size, fun k hk _ => hb.block k hk⟩, fun _ _ _ _ h => h.go hb⟩, .inr ⟨V.heap.size + 1, by omega, rfl⟩⟩
  · obtain ⟨g', cap', w', hr, h2, h3, h4⟩ := run_pushZI (V.alloc (.cells #[.bool (ngB X), .slice A m c] 32)) ty (ho.alloc _) hn hx.c0 hx.c1
    have hG : Gr (.slice (some ⟨g, 0, none⟩) l.length cap) (V.alloc (.cells #[.bool (ngB X), .slice A m c] 32)) w' := ⟨h3, fun _ _ _ _ h => h.by_ (ho.alloc _) h3⟩
    have hG2 := hG.alloc
    have e : (l ++ [X]).length = l.length + 1 := by simp
    refine ⟨_, _, hr, .inr ⟨g', cap', _, by rw [e], ?_, by rw [e]; exact h2, (hc.to fun _ _ _ _ z => z.gr hG2).snoc (z.gr hG2)⟩, hG2, ?_⟩
    · rcases h4 with rfl | rfl
      · exact hg
      · omega
    · rcases h4 with rfl | rfl
      · exact .inl rfl
      · exact .inr ⟨_, Nat.le_trans (Nat.le_succ _) (Nat.le_of_eq hsz.symm), rfl⟩
theorem wpo_pushGI {V : World} {o : Oper} {a : Act} {K : Act → World → Prop} {Q : Exit → Act → World → Prop} (s x : Operand)
    (hop : o.op = .call { callee := .builtin .append, args := #[s, x], argTypes := #[35, 35] }) {v : Value} (hs : a.eval s = v)
    {B J m c : Nat} {l : List Int} {A : Option Addr} {X : Int} (h : Gz V B J v l) (hn : l.length ≤ 1000) (hB : B ≤ V.heap.size) (z : Zn V A m c X J) (hx : a.eval x = .slice (some ⟨V.heap.size, 0, none⟩) 1 1)
    (hK : ∀ s' w', Pu V B J v l X s' w' → K (a.put o.dst s') w') : o.wp Try.prog a (V.alloc (.cells #[.bool (ngB X), .slice A m c] 32)) K Q := by
  obtain ⟨s', w', hr, h2⟩ := run_pushGI V o.type h hn hB z
  unfold Oper.wp execOp
  simp only [hop, resolve, invoke, builtin, Sem.run_bind, Sem.run_pure, Result.andThen_ok, List.map_toArray, List.map_cons, List.map_nil, hs, hx, hr]
  exact hK _ _ h2
theorem step_pushGI {V : World} {ops : Array Oper} {o : Oper} {a : Act} {K : Act → World → Prop} {Q : Exit → Act → World → Prop} {E : Prop} (hgd : o.guard = none) (s x : Operand)
    (hop : o.op = .call { callee := .builtin .append, args := #[s, x], argTypes := #[35, 35] }) {v : Value} (hs : a.eval s = v)
    {B J m c : Nat} {l : List Int} {A : Option Addr} {X : Int} (h : Gz V B J v l) (hn : l.length ≤ 1000) (hB : B ≤ V.heap.size) (z : Zn V A m c X J) (hx : a.eval x = .slice (some ⟨V.heap.size, 0, none⟩) 1 1)
    (hK : ∀ s' w', Pu V B J v l X s' w' → K (a.put o.dst s') w') :
    if Region.wanted o (yielded ops a.tmps) = true then Oper.wp Try.prog o a (V.alloc (.cells #[.bool (ngB X), .slice A m c] 32)) K Q else E := by
  rw [if_pos (by simp [Region.wanted, hgd])]
  exact wpo_pushGI s x hop hs h hn hB z hx hK
theorem wp_pushGI {V : World} {ops : Array Oper} {rest : List Oper} {o : Oper} {a : Act} {Q : Exit → Act → World → Prop} (hgd : o.guard = none) (s x : Operand)
    (hop : o.op = .call { callee := .builtin .append, args := #[s, x], argTypes := #[35, 35] }) {v : Value} (hs : a.eval s = v)
    {B J m c : Nat} {l : List Int} {A : Option Addr} {X : Int} (h : Gz V B J v l) (hn : l.length ≤ 1000) (hB : B ≤ V.heap.size) (z : Zn V A m c X J) (hx : a.eval x = .slice (some ⟨V.heap.size, 0, none⟩) 1 1)
    (hK : ∀ s' w', Pu V B J v l X s' w' → wpList Try.prog ops Q rest (a.put o.dst s') w') : wpList Try.prog ops Q (o :: rest) a (V.alloc (.cells #[.bool (ngB X), .slice A m c] 32)) :=
  wpList_plain hgd fun K hK2 => wpo_pushGI s x hop hs h hn hB z hx fun s' w' h2 => hK2 _ _ (hK s' w' h2)
theorem gz_new {v : World} {B J g : Nat} (x : v.heap[g]? = some (.cells #[] 32 (0, 0))) (hB : B ≤ g) : Gz v B J (.slice (some ⟨g, 0, none⟩) 0 0) [] :=
  .inr ⟨_, 0, [], rfl, hB, ⟨#[], x, Nat.le_refl _, by unfold maxLen; omega, rfl, rfl, rfl, fun u hu => by cases hu⟩, rfl⟩
/-- The rows of a list, so many in a row. -/
def rowL (cols k : Nat) (xs : List Int) : List Int := (xs.drop (k * cols)).take cols
/-- What of has made: the rows, none of them where the outer slice is. -/
def OfR (w : World) (s : Value) (cols : Nat) (xs : List Int) (cs : List Value) : Prop :=
  ∀ k (hk : k < cs.length), ∃ g c, cs[k] = .slice (some ⟨g, 0, none⟩) cols c ∧ g < w.heap.size ∧ s.ownBlock ≠ some g ∧ Pn w (some ⟨g, 0, none⟩) cols c (rowL cols k xs) 1
theorem OfR.keep {w v : World} {s : Value} {cols : Nat} {xs : List Int} {cs : List Value} (h : OfR w s cols xs cs) (hb : Below w.heap.size w v) : OfR v s cols xs cs := fun k hk => by
  obtain ⟨g, c, h1, h2, h3, h4⟩ := h k hk
  exact ⟨g, c, h1, Nat.lt_of_lt_of_le h2 hb.size, h3, h4.keep hb⟩
theorem Pn.gr0 {w w' : World} {s : Value} {g n c J : Nat} {l : List Int} (p : Pn w (some ⟨g, 0, none⟩) n c l J) (hg : Gr s w w') (hl : g < w.heap.size) (hne : s.ownBlock ≠ some g) : Pn w' (some ⟨g, 0, none⟩) n c l J := ⟨p.1, p.2.1, p.2.2.1, fun hn => by
  obtain ⟨d, o, e, hd, hc⟩ := p.2.2.2 hn
  injection e with e; injection e with e1 e2; subst e1; subst e2
  refine ⟨g, 0, rfl, Nat.lt_of_lt_of_le hl hg.grown.size, fun k hk => ?_⟩
  obtain ⟨A', m, c', h1, h2, h3⟩ := hc k hk
  have hx := hg.at_ hl hne
  exact ⟨A', m, c', (World.cell?_of_block hx).trans h1, (World.cell?_of_block hx).trans h2, h3.gr hg⟩⟩
theorem Gz.blk {w : World} {B J : Nat} {s : Value} {l : List Int} (h : Gz w B J s l) (hl : 0 < l.length) (hn : l.length ≤ 100000) : ∃ g c, s = .slice (some ⟨g, 0, none⟩) l.length c ∧ B ≤ g ∧ g < w.heap.size ∧ Pn w (some ⟨g, 0, none⟩) l.length c l J := by
  obtain ⟨A, c, e, p⟩ := h.pn hn
  rcases h with ⟨_, h0⟩ | ⟨g, cap, xs, e2, hg, ho, _⟩
  · rw [h0] at hl; simp at hl
  · rw [e2] at e
    injection e with e1 e3 e4
    subst e1; subst e4
    exact ⟨g, cap, e2, hg, ho.lt, p⟩
theorem ofR_mn {w : World} {B cols N : Nat} {s : Value} {xs : List Int} {cs : List Value} (h : Gm w B s cs) (r : OfR w s cols xs cs) (hl : cs.length = N) (hN : N ≤ 1000) : ∃ A c, s = .slice A N c ∧ Mn w A N c ((List.range N).map fun k => rowL cols k xs) 1 := by
  rcases h with ⟨rfl, rfl⟩ | ⟨g, cap, rfl, hg, ho⟩
  · have h0 : N = 0 := by simpa using hl.symm
    subst h0
    exact ⟨none, 0, rfl, rfl, Nat.le_refl _, by omega, fun h => absurd h (by omega)⟩
  · have hlt := ho.lt
    obtain ⟨cur, h1, h2, h3, h4, h5, h6, h7⟩ := ho
    subst hl
    refine ⟨_, cap, rfl, by simp, h2, by omega, fun _ => ⟨g, 0, rfl, hlt, fun k hk => ?_⟩⟩
    have hk2 : k < cs.length := by simpa using hk
    obtain ⟨g', c', e, _, _, p⟩ := r k hk2
    refine ⟨_, cols, c', ?_, by simpa using p⟩
    rw [Nat.zero_add, cell_of_row w g k cur _ (0, 0) h1, ← e]
    have := congrArg (fun l => l[k]?) h5
    simp only [List.getElem?_take, if_pos hk2] at this
    simpa [hk2] using this
set_option maxHeartbeats 4000000 in
theorem Lof_any {g n cols N : Nat} {xs : List Int} {w : World} (hx : ∀ k (hk : k < xs.length), w.cell? ⟨g, k, none⟩ = some (.int .i64 xs[k])) (hg : g < w.heap.size) (hl : xs.length = n) (hn : n ≤ 100) (hN : N * cols = n) (hc : 1 ≤ cols) (hbd : ∀ x ∈ xs, -9223372036854775808 ≤ x ∧ x ≤ 9223372036854775807) :
    Calls Try.prog 14 #[.int .i64 (cols : Int), .slice (some ⟨g, 0, none⟩) n n] w fun e w' => ∃ A c, e = .returned (.slice A N c) ∧ Mn w' A N c ((List.range N).map fun k => rowL cols k xs) 1 ∧ Below w.heap.size w w' := by
  have hNn : N ≤ n := by rw [← hN]; exact Nat.le_mul_of_pos_right _ hc
  have hcn : N = 0 ∨ cols ≤ n := by
    rcases Nat.eq_zero_or_pos N with h | h
    · exact .inl h
    · exact .inr (by rw [← hN]; exact Nat.le_mul_of_pos_left _ h)
  have HX := Lib.hid hx; have HL := Lib.hid hl; have HBD := Lib.hid hbd; have HN := Lib.hid hN
  clear hx hl hbd hN
  go_enter Try.func14, Try.ntmps14
  go_upto_region 2 with fail
  refine al1 fun v1 hb x_o => ?_
  have gm : Gm v1 w.heap.size (.slice (some ⟨w.heap.size, 0, none⟩) 0 0) [] := gm_new x_o (Nat.le_refl _)
  have r0 : OfR v1 (.slice (some ⟨w.heap.size, 0, none⟩) 0 0) cols xs [] := fun k hk => by cases hk
  clear x_o
  go_wp2_with fail
  go_loopw [5, 6] (fun sv kv wr => ∃ (t : Value) (wo : World) (j i : Nat) (cs : List Value), t = sv ∧ wo = wr ∧ j ≤ N ∧ Hid (j * cols = i) ∧ kv = .int .i64 (i : Int) ∧ Gm wo w.heap.size t cs ∧ cs.length = j ∧ OfR wo t cols xs cs ∧ Below w.heap.size w wo) (fun _ kv _ => n - (intOf kv).toNat)
  case atStart => exact ⟨_, _, 0, 0, [], rfl, rfl, by omega, Lib.hid (by simp), rfl, gm, rfl, r0, hb⟩
  case round =>
    clear gm r0 hb
    obtain ⟨t, wo, j, i, cs, rfl, rfl, hj, hji, rfl, gm, hcs, r, hb⟩ := hrel
    rcases (show N = j ∨ j < N by omega) with hin | hin
    · subst hin
      obtain rfl : n = i := by rw [← HN.out]; exact hji.out
      obtain ⟨A, c, rfl, p⟩ := ofR_mn gm r hcs (by omega)
      clear gm r hcs hji
      go_wp2
      go_ret
      exact ⟨A, c, rfl, p, hb⟩
    · have hi1 : (j + 1) * cols ≤ N * cols := Nat.mul_le_mul_right _ hin
      rw [Nat.add_mul, Nat.one_mul, hji.out, HN.out] at hi1
      obtain ⟨i2, hi2⟩ : ∃ i2, i + cols = i2 := ⟨_, rfl⟩
      rw [hi2] at hi1
      have hlt : i < n := by omega
      have hw : IntKind.i64.wrap ((i : Int) + cols) = (i2 : Int) := by rw [i64_keep (by omega) (by omega)]; omega
      have HI2 := Lib.hid hi2
      have hle : i ≤ i2 := by omega
      clear hi2
      go_upto_region 6 with fail
      refine al1 fun v2 hb1 x_o => ?_
      have gz0 : Gz v2 wo.heap.size 1 (.slice (some ⟨wo.heap.size, 0, none⟩) 0 0) ((xs.drop i).take (i - i)) := by rw [Nat.sub_self, List.take_zero]; exact gz_new x_o (Nat.le_refl _)
      have hBw := hb.size
      clear x_o
      go_wp2_with fail
      go_loopw [7, 8] (fun tv kv wr => ∃ k : Nat, i ≤ k ∧ k ≤ i2 ∧ kv = .int .i64 (k : Int) ∧ Gz wr wo.heap.size 1 tv ((xs.drop i).take (k - i)) ∧ Below wo.heap.size wo wr) (fun _ kv _ => i2 - (intOf kv).toNat)
      case atStart => exact ⟨i, Nat.le_refl _, hle, rfl, gz0, hb1⟩
      case round =>
        clear gz0 hb1
        obtain ⟨k, hik, hki, rfl, gz, hb1⟩ := hrel
        have hBs := hb1.size
        rcases (show i2 = k ∨ k < i2 by omega) with hk2 | hk2
        · subst hk2
          have hrow : (xs.drop i).take (i2 - i) = rowL cols j xs := by rw [rowL, hji.out, show i2 - i = cols by have := HI2.out; omega]
          rw [hrow] at gz
          have hrl : (rowL cols j xs).length = cols := by
            rw [rowL, List.length_take, List.length_drop, HL.out, hji.out]; have := HI2.out; omega
          obtain ⟨g9, c9, rfl, hg9, hl9, p9⟩ := gz.blk (by omega) (by omega)
          rw [hrl] at p9
          simp only [hrl]
          have HP := Lib.hid p9
          have hne9 : t.ownBlock ≠ some g9 := fun e => by have := (gm.lt e).2; omega
          replace gm := gm.keep hb1; replace r := r.keep hb1; replace hb := bthen hb hb1
          clear hrow gz hrl p9 hb1
          go_wp2_with (at_builtin; refine wp_pushM rfl _ _ rfl rfl gm (by omega) hb.size rfl ?_; intro s' w' hpm)
          obtain ⟨gm2, hgr, hnw⟩ := hpm
          have hsz := hgr.grown.size
          have r2 : OfR w' s' cols xs (cs ++ [.slice (some ⟨g9, 0, none⟩) cols c9]) := fun q hq => by
            have hown : ∀ x, x < wr.heap.size → t.ownBlock ≠ some x → s'.ownBlock ≠ some x := fun x hx hne e => by
              rcases hnw with e2 | ⟨y, hy, e2⟩
              · exact hne (e2.symm.trans e)
              · rw [e2] at e; injection e with e; omega
            rcases (show q < cs.length ∨ q = cs.length by simp at hq; omega) with h | h
            · obtain ⟨g8, c8, h1, h2, h3, h4⟩ := r q h
              exact ⟨g8, c8, by rw [List.getElem_append_left h]; exact h1, Nat.lt_of_lt_of_le h2 hsz, hown _ h2 h3, h4.gr0 hgr h2 h3⟩
            · subst h
              exact ⟨g9, c9, by simp, Nat.lt_of_lt_of_le hl9 hsz, hown _ hl9 hne9, by rw [hcs]; exact HP.out.gr0 hgr hl9 hne9⟩
          have hb2 := Gr.belowM hb hb.size gm hgr (Nat.le_refl _)
          go_wp2_with fail
          exact ⟨⟨s', w', j + 1, i2, _, rfl, rfl, by omega, Lib.hid (by rw [Nat.add_mul, Nat.one_mul, hji.out]; exact HI2.out), by go_num, gm2, by simp [hcs], r2, hb2⟩, by have := HI2.out; simp [intOf]; omega⟩
        · have hil : k < xs.length := by rw [HL.out]; omega
          have hc := ((bthen hb hb1).cell (p := ⟨g, k, none⟩) hg).trans (HX.out k hil)
          have hxb := HBD.out _ (List.getElem_mem hil)
          have htk : Hid ((xs.drop i).take (k - i) ++ [xs[k]] = (xs.drop i).take (k + 1 - i)) := Lib.hid (by
            rw [show k + 1 - i = k - i + 1 by omega, List.take_add_one, List.getElem?_drop, show i + (k - i) = k by omega, List.getElem?_eq_getElem hil]; rfl)
          have hln : ((xs.drop i).take (k - i)).length ≤ 1000 := by rw [List.length_take]; omega
          generalize xs[k] = X at *
          generalize (xs.drop i).take (k - i) = l at *
          have hkn : k < n := by omega
          go_wp2_with fail
          with_reducible refine (ROf_any X hxb.1 hxb.2).mono ?_
          rintro e v4 ⟨A2, n2, c2, rfl, z, hb2⟩
          replace gz := gz.keep hb2
          replace hb1 := bthen hb1 hb2
          have hBs2 := hb1.size
          clear hb2 hc hBs
          go_wp2_with (at_builtin; refine wp_pushGI (V := v4) rfl _ _ rfl rfl gz hln hBs2 z rfl ?_; intro s' w' hpu)
          have hgz := hpu.1
          rw [htk.out] at hgz
          have hb3 := Gr.below hb1 hBs2 gz hpu.2.1 (Nat.le_refl _)
          exact ⟨⟨k + 1, by omega, by omega, by go_num, hgz, hb3⟩, by simp [intOf]; omega⟩
end Go.Proofs.Ytbpamkpclofnbaa
namespace Go.Proofs.Ytbpamkpclofnbaa
open Go.RowKit
set_option linter.unusedVariables false
set_option maxRecDepth 100000

/-- Block g begins with the integers l, as they are read. -/
def Pz (w : World) (g : Nat) (l : List Int) (J : Nat) : Prop :=
  ∃ cur : Array Value, w.heap[g]? = some (.cells cur 32 (0, 0)) ∧ l.length * 2 ≤ cur.size ∧ l.length ≤ 100000 ∧ Kd cur.toList ∧
    ∀ k (hk : k < l.length), ∃ b A n c, cur[k * 2]? = some (.bool b) ∧ cur[k * 2 + 1]? = some (.slice A n c) ∧ Zr w b A n c l[k] J
section
variable {w v W w' : World} {g n c J K B : Nat} {b : Bool} {A : Option Addr} {X : Int} {l L : List Int} {P : Nat → Prop}
theorem Pw.pz (h : Pw w g L J) : Pz w g L J := by
  obtain ⟨cur, h, h1, h2, h3, h4⟩ := h
  refine ⟨cur, h, Nat.le_of_eq h1.symm, h2, h3, fun k hk => ?_⟩
  obtain ⟨A, n, c, a1, a2, a3⟩ := h4 k hk
  exact ⟨_, A, n, c, a1, a2, a3.zr⟩
theorem Pz.lt (h : Pz w g L J) : g < w.heap.size := by
  obtain ⟨cur, h, _⟩ := h
  exact (Array.getElem?_eq_some_iff.1 h).1
theorem Pz.len (h : Pz w g L J) : L.length ≤ 100000 := by
  obtain ⟨cur, h, h1, h2, _⟩ := h
  exact h2
theorem Pz.kto (h : Pz w g L J) (hK : J ≤ K) : Pz w g L K := by
  obtain ⟨cur, h, h1, h2, h3, h4⟩ := h
  refine ⟨cur, h, h1, h2, h3, fun k hk => ?_⟩
  obtain ⟨b, A, n, c, a1, a2, a3⟩ := h4 k hk
  exact ⟨b, A, n, c, a1, a2, a3.kto hK⟩
theorem Pz.keep (h : Pz w g L J) (hb : Below w.heap.size w w') : Pz w' g L J := by
  have hl := h.lt
  obtain ⟨cur, h, h1, h2, h3, h4⟩ := h
  refine ⟨cur, (hb.block g hl).trans h, h1, h2, h3, fun k hk => ?_⟩
  obtain ⟨b, A, n, c, a1, a2, a3⟩ := h4 k hk
  exact ⟨b, A, n, c, a1, a2, a3.keep hb⟩
theorem Pz.nl (h : Pz w g L J) : Nl w g := by
  obtain ⟨cur, h, h1, h2, h3, h4⟩ := h
  exact nl_of h fun i y e => h3 _ (by have := Array.mem_of_getElem? e; simpa using this) y rfl
theorem Pz.sto {h : Nat} (p : Pz W h L J) (hh : h ≠ g) (s : Sto W g v) : Pz v h L J := by
  obtain ⟨cur, h, h1, h2, h3, h4⟩ := p
  refine ⟨cur, (s.block _ hh).trans h, h1, h2, h3, fun k hk => ?_⟩
  obtain ⟨b, A, n, c, a1, a2, a3⟩ := h4 k hk
  exact ⟨b, A, n, c, a1, a2, Ms.ms (g := g) s trivial a3⟩
theorem Pz.fr (h : Pz w g L J) (i : Nat) : w.frozen? ⟨g, i, none⟩ = false := by
  obtain ⟨cur, h, _⟩ := h
  simp [World.frozen?, h]
theorem Pz.ec (h : Pz w g L J) {k : Nat} (hk : k < L.length) : ∃ b A n c, Ec w g (k * 2) b A n c ∧ Zr w b A n c L[k] J := by
  have hl := h.lt
  obtain ⟨cur, h, h1, h2, h3, h4⟩ := h
  obtain ⟨b, A, n, c, a1, a2, a3⟩ := h4 k hk
  refine ⟨b, A, n, c, ⟨hl, ?_, ?_⟩, a3⟩
  · rw [cell_of_row w g _ _ _ (0, 0) h]; exact a1
  · rw [cell_of_row w g _ _ _ (0, 0) h]; exact a2
/-- An integer is laid into a block. -/
theorem Pz.set (h : Pz W g L J) {k : Nat} (hk : k < L.length) (z : Zr W b A n c X J) :
    Sto W g ((W.setCell ⟨g, k * 2, none⟩ (.bool b)).setCell ⟨g, k * 2 + 1, none⟩ (.slice A n c)) ∧ Pz ((W.setCell ⟨g, k * 2, none⟩ (.bool b)).setCell ⟨g, k * 2 + 1, none⟩ (.slice A n c)) g (L.set k X) J := by
  have N := h.nl
  have s : Sto W g ((W.setCell ⟨g, k * 2, none⟩ (.bool b)).setCell ⟨g, k * 2 + 1, none⟩ (.slice A n c)) := ((Sto.refl W g).set N).set N
  refine ⟨s, ?_⟩
  obtain ⟨cur, h, h1, h2, h3, h4⟩ := h
  refine ⟨(cur.setIfInBounds (k * 2) (.bool b)).setIfInBounds (k * 2 + 1) (.slice A n c), ?_, by simp; exact h1, by simp; exact h2, kd_set (kd_set h3 (by simp)) (by simp), fun i hi => ?_⟩
  · simp [World.setCell, Array.getElem?_modify, h]
  · have hi2 : i < L.length := by simpa using hi
    obtain ⟨b', A', n', c', a1, a2, a3⟩ := h4 i hi2
    by_cases hik : i = k
    · subst hik
      refine ⟨b, A, n, c, ?_, ?_, ?_⟩
      · rw [Array.getElem?_setIfInBounds, if_neg (by omega), Array.getElem?_setIfInBounds, if_pos rfl, if_pos (by omega)]
      · rw [Array.getElem?_setIfInBounds, if_pos rfl, if_pos (by simp; omega)]
      · rw [List.getElem_set_self]; exact Ms.ms (g := g) s trivial z
    · refine ⟨b', A', n', c', ?_, ?_, ?_⟩
      · rw [Array.getElem?_setIfInBounds, if_neg (by omega), Array.getElem?_setIfInBounds, if_neg (by omega)]; exact a1
      · rw [Array.getElem?_setIfInBounds, if_neg (by omega), Array.getElem?_setIfInBounds, if_neg (by omega)]; exact a2
      · rw [List.getElem_set_ne (by omega)]; exact Ms.ms (g := g) s trivial a3
theorem Pz.rd (h : Pz w g L J) (hB : g < B) {o m c : Nat} (hm : o + m ≤ L.length) (hc : m ≤ c) : Pd w B (some ⟨g, o * 2, none⟩) m c ((L.drop o).take m) J := by
  have h0 := h.len
  refine ⟨by simp; omega, hc, by omega, fun hn => ⟨g, o * 2, rfl, hB, fun k hk => ?_⟩⟩
  rw [List.length_take, List.length_drop] at hk
  obtain ⟨b, A, n, c, e, z⟩ := h.ec (k := o + k) (by omega)
  rw [List.getElem_take, List.getElem_drop]
  have a1 := e.c0; have a2 := e.c1
  rw [Nat.add_mul] at a1 a2
  exact ⟨b, A, n, c, a1, a2, z⟩
instance : Mv (Pz W g L J) W v (Pz v g L J) := ⟨fun x y => x.keep y⟩
instance {h : Nat} : Ms (Pz W h L J) W v g (h ≠ g) (Pz v h L J) := ⟨fun s hg p => p.sto hg s⟩
end
/-- Block g holds just these numbers. -/
def Bi (w : World) (g : Nat) (l : List Int) : Prop :=
  ∃ cur : Array Value, w.heap[g]? = some (.cells cur 3 (0, 0)) ∧ cur.toList = l.map (.int .i64) ∧ l.length ≤ 100000
section
variable {w v W : World} {g k : Nat} {l : List Int} {x : Int}
theorem Bi.lt (h : Bi w g l) : g < w.heap.size := by
  obtain ⟨cur, h, _⟩ := h
  exact (Array.getElem?_eq_some_iff.1 h).1
theorem Bi.keep (h : Bi w g l) (hb : Below w.heap.size w v) : Bi v g l := by
  have hl := h.lt
  obtain ⟨cur, h, h2⟩ := h
  exact ⟨cur, (hb.block g hl).trans h, h2⟩
theorem Bi.sto {d : Nat} (h : Bi W d l) (hd : d ≠ g) (s : Sto W g v) : Bi v d l := by
  obtain ⟨cur, h, h2⟩ := h
  exact ⟨cur, (s.block _ hd).trans h, h2⟩
theorem Bi.nl (h : Bi w g l) : Nl w g := by
  obtain ⟨cur, h, h1, h2⟩ := h
  refine nl_of h fun i y e => ?_
  have hm : Value.int .u64 y ∈ cur.toList := by have := Array.mem_of_getElem? e; simpa using this
  rw [h1] at hm
  simp at hm
theorem Bi.fr (h : Bi w g l) (i : Nat) : w.frozen? ⟨g, i, none⟩ = false := by
  obtain ⟨cur, h, _⟩ := h
  simp [World.frozen?, h]
theorem Bi.at_ (h : Bi w g l) (hk : k < l.length) : Vc w g k (.int .i64 l[k]) := by
  have hl := h.lt
  obtain ⟨cur, h, h1, h2⟩ := h
  refine ⟨hl, ?_⟩
  rw [cell_of_row w g k _ _ (0, 0) h, ← Array.getElem?_toList, h1, List.getElem?_map, List.getElem?_eq_getElem hk]
  rfl
theorem Bi.set (h : Bi W g l) (hk : k < l.length) : Sto W g (W.setCell ⟨g, k, none⟩ (.int .i64 x)) ∧ Bi (W.setCell ⟨g, k, none⟩ (.int .i64 x)) g (l.set k x) := by
  have N := h.nl
  have s : Sto W g (W.setCell ⟨g, k, none⟩ (.int .i64 x)) := (Sto.refl W g).set N
  refine ⟨s, ?_⟩
  obtain ⟨cur, h, h1, h2⟩ := h
  refine ⟨cur.setIfInBounds k (.int .i64 x), ?_, ?_, by simpa using h2⟩
  · simp [World.setCell, Array.getElem?_modify, h]
  · rw [Array.toList_setIfInBounds, h1, List.map_set]
instance : Mv (Bi W g l) W v (Bi v g l) := ⟨fun x y => x.keep y⟩
instance {d : Nat} : Ms (Bi W d l) W v g (d ≠ g) (Bi v d l) := ⟨fun s hd x => x.sto hd s⟩
end
/-- The elimination's variable: its rows, the pivots' rows, the steps, the last pivot, the sign. -/
def Eb (w : World) (g : Nat) (R P : Option Addr) (r cr m cm : Nat) (s : Int) (b : Bool) (A : Option Addr) (n c : Nat) (o : Bool) : Prop :=
  w.heap[g]? = some (.cells #[.slice R r cr, .slice P m cm, .int .i64 s, .bool b, .slice A n c, .bool o] 57 (0, 0))
section
variable {w v W : World} {g d r cr m cm n c : Nat} {R P A R' A' : Option Addr} {s s' : Int} {b o b' o' : Bool} {r' cr' n' c' : Nat}
theorem Eb.lt (h : Eb w g R P r cr m cm s b A n c o) : g < w.heap.size := (Array.getElem?_eq_some_iff.1 h).1
theorem Eb.c0 (h : Eb w g R P r cr m cm s b A n c o) : w.cell? ⟨g, 0, none⟩ = some (.slice R r cr) := by rw [cell_of_row w g 0 _ _ (0, 0) h]; rfl
theorem Eb.c1 (h : Eb w g R P r cr m cm s b A n c o) : w.cell? ⟨g, 1, none⟩ = some (.slice P m cm) := by rw [cell_of_row w g 1 _ _ (0, 0) h]; rfl
theorem Eb.c2 (h : Eb w g R P r cr m cm s b A n c o) : w.cell? ⟨g, 2, none⟩ = some (.int .i64 s) := by rw [cell_of_row w g 2 _ _ (0, 0) h]; rfl
theorem Eb.c3 (h : Eb w g R P r cr m cm s b A n c o) : w.cell? ⟨g, 3, none⟩ = some (.bool b) := by rw [cell_of_row w g 3 _ _ (0, 0) h]; rfl
theorem Eb.c4 (h : Eb w g R P r cr m cm s b A n c o) : w.cell? ⟨g, 4, none⟩ = some (.slice A n c) := by rw [cell_of_row w g 4 _ _ (0, 0) h]; rfl
theorem Eb.c5 (h : Eb w g R P r cr m cm s b A n c o) : w.cell? ⟨g, 5, none⟩ = some (.bool o) := by rw [cell_of_row w g 5 _ _ (0, 0) h]; rfl
theorem Eb.fr (h : Eb w g R P r cr m cm s b A n c o) (i : Nat) : w.frozen? ⟨g, i, none⟩ = false := by
  have h := h
  unfold Eb at h
  simp [World.frozen?, h]
theorem Eb.al (h : Eb w g R P r cr m cm s b A n c o) : w.cell? ⟨g, 0, none⟩ = some (.slice R r cr) ∧ w.cell? ⟨g, 1, none⟩ = some (.slice P m cm) ∧ w.cell? ⟨g, 2, none⟩ = some (.int .i64 s) ∧ w.cell? ⟨g, 3, none⟩ = some (.bool b) ∧ w.cell? ⟨g, 4, none⟩ = some (.slice A n c) ∧ w.cell? ⟨g, 5, none⟩ = some (.bool o) :=
  ⟨h.c0, h.c1, h.c2, h.c3, h.c4, h.c5⟩
theorem Eb.keep (h : Eb w g R P r cr m cm s b A n c o) (hb : Below w.heap.size w v) : Eb v g R P r cr m cm s b A n c o := (hb.block g h.lt).trans h
theorem Eb.sto (h : Eb W g R P r cr m cm s b A n c o) (hd : g ≠ d) (st : Sto W d v) : Eb v g R P r cr m cm s b A n c o := (st.block _ hd).trans h
theorem Eb.nl (h : Eb w g R P r cr m cm s b A n c o) : Nl w g := nl_of h fun i y e => by
  match i with
  | 0 | 1 | 2 | 3 | 4 | 5 => simp at e
  | k + 6 => simp at e
instance : Mv (Eb W g R P r cr m cm s b A n c o) W v (Eb v g R P r cr m cm s b A n c o) := ⟨fun x y => x.keep y⟩
instance : Ms (Eb W g R P r cr m cm s b A n c o) W v d (g ≠ d) (Eb v g R P r cr m cm s b A n c o) := ⟨fun st hd x => x.sto hd st⟩
theorem Eb.steps (h : Eb W g R P r cr m cm s b A n c o) : Sto W g (W.setCell ⟨g, 2, none⟩ (.int .i64 s')) ∧ Eb (W.setCell ⟨g, 2, none⟩ (.int .i64 s')) g R P r cr m cm s' b A n c o := by
  refine ⟨(Sto.refl W g).set h.nl, ?_⟩
  unfold Eb at h ⊢
  simp [World.setCell, Array.getElem?_modify, h]
theorem Eb.odd (h : Eb W g R P r cr m cm s b A n c o) : Sto W g (W.setCell ⟨g, 5, none⟩ (.bool o')) ∧ Eb (W.setCell ⟨g, 5, none⟩ (.bool o')) g R P r cr m cm s b A n c o' := by
  refine ⟨(Sto.refl W g).set h.nl, ?_⟩
  unfold Eb at h ⊢
  simp [World.setCell, Array.getElem?_modify, h]
theorem Eb.rows (h : Eb W g R P r cr m cm s b A n c o) : Sto W g (W.setCell ⟨g, 0, none⟩ (.slice R' r' cr')) ∧ Eb (W.setCell ⟨g, 0, none⟩ (.slice R' r' cr')) g R' P r' cr' m cm s b A n c o := by
  refine ⟨(Sto.refl W g).set h.nl, ?_⟩
  unfold Eb at h ⊢
  simp [World.setCell, Array.getElem?_modify, h]
theorem Eb.pivot (h : Eb W g R P r cr m cm s b A n c o) : Sto W g ((W.setCell ⟨g, 3, none⟩ (.bool b')).setCell ⟨g, 4, none⟩ (.slice A' n' c')) ∧ Eb ((W.setCell ⟨g, 3, none⟩ (.bool b')).setCell ⟨g, 4, none⟩ (.slice A' n' c')) g R P r cr m cm s b' A' n' c' o := by
  refine ⟨((Sto.refl W g).set h.nl).set h.nl, ?_⟩
  unfold Eb at h ⊢
  simp [World.setCell, Array.getElem?_modify, h]
end
end Go.Proofs.Ytbpamkpclofnbaa
namespace Go.Proofs.Ytbpamkpclofnbaa
open Go.RowKit
set_option linter.unusedVariables false
set_option maxRecDepth 100000

theorem add_offN (d o j : Nat) : (⟨d, o, none⟩ : Addr).add j = ⟨d, o + j, none⟩ := by unfold Addr.add; split <;> simp_all
theorem Try.infoN : (Try.prog.info? 3).map (fun i => (i.zero, i.size, i.bytes)) = some (some (.int .i64 0), 1, 8) := by kernel_rfl
/-- make of a slice of numbers. -/
theorem wp_makeN {w : World} {ops : Array Oper} {rest : List Oper} {o : Oper} {a : Act} {Q : Exit → Act → World → Prop} (hg : o.guard = none) (l c : Operand) (hop : o.op = Op.makeSlice 55 l c)
    (n : Nat) (L C : Int) (hl : a.eval l = .int .i64 L) (hc : a.eval c = .int .i64 C) (hL : L = (n : Int)) (hC : C = (n : Int)) (hn : n ≤ 100000)
    (hK : ∀ w', Bi w' w.heap.size (List.replicate n 0) → Below w.heap.size w w' → wpList Try.prog ops Q rest (a.put o.dst (.slice (some ⟨w.heap.size, 0, none⟩) n n)) w') :
    wpList Try.prog ops Q (o :: rest) a w := by
  obtain ⟨i0, hi, hz0, hz1, hz2⟩ := info_parts Try.infoN
  refine wpList_make_full w hg l c 55 hop 0 3 i0 (.int .i64 0) 1 Try.underlying55 hi hz0 hz1 .i64 .i64 L C n hl hc hL hC (by rw [hz2]; omega) (by unfold maxLen; omega) (Nat.zero_le _) ?_
  intro w' hown hgrow
  refine hK w' ?_ ⟨hgrow.os, hgrow.tape, hgrow.output, hgrow.size, fun k hk => hgrow.block k hk (by simp)⟩
  obtain ⟨_, h2⟩ := hown
  rcases h2 with ⟨h, _⟩ | ⟨g, cap, cur, hv, _, hh, hnc, _, hcs, hxs⟩
  · cases h
  · injection hv with hv1 hv2 hv3
    injection hv1 with hv1
    injection hv1 with hv1
    subst hv1 hv3
    have e : cur = Builtin.zeroCells #[.int .i64 0] n := by
      rw [List.take_of_length_le (by simp; omega)] at hxs
      exact Array.toList_inj.1 hxs
    refine ⟨cur, hh, ?_, by simpa using hn⟩
    rw [e]
    apply List.ext_getElem
    · simp [Builtin.zeroCells]
    · intro i h1 h2
      simp [Builtin.zeroCells]
      rw [Nat.mod_one]; rfl
/-- copy within slices of numbers. -/
theorem run_copyN {W : World} {ty : TypeId} {g off dn dc g2 o2 sn sc q : Nat} {l l2 : List Int} (h : Bi W g l) (h2 : Bi W g2 l2) (hq : Nat.min sn dn = q) (hn : ((l2.drop o2).take q).length = q) (hf : off + q ≤ l.length) :
    ∃ w', (Builtin.copy_ #[55, 55] ty #[.slice (some ⟨g, off, none⟩) dn dc, .slice (some ⟨g2, o2, none⟩) sn sc]).run Try.prog W = .ok (goInt q) w' ∧ Sto W g w' ∧ Bi w' g (l.take off ++ (l2.drop o2).take q ++ l.drop (off + q)) := by
  obtain ⟨i0, hi, hz0, hz1, hz2⟩ := info_parts Try.infoN
  have N := h.nl
  obtain ⟨cur, hh, hc, hb⟩ := h
  have hcs : cur.size = l.length := by rw [← Array.length_toList, hc]; simp
  have hrun := run_copy_row (P := Try.prog) W 55 55 ty 3 g off dn dc ⟨g2, o2, none⟩ sn sc cur _ (((l2.drop o2).take q).map (Value.int .i64)) Try.underlying55 (by rw [hi]; simp [hz1]) hh (by rw [List.length_map, hn, hq]) (fun j v hj => by
      rw [add_offN]
      have hjl := (List.getElem?_eq_some_iff.1 hj).1
      rw [List.length_map, hn] at hjl
      rw [List.getElem?_map, List.getElem?_take_of_lt hjl, List.getElem?_drop] at hj
      obtain ⟨x, hx, rfl⟩ := Option.map_eq_some_iff.1 hj
      obtain ⟨hxl, hxe⟩ := List.getElem?_eq_some_iff.1 hx
      have := (h2.at_ hxl).al
      rw [hxe] at this
      exact this) (by rw [List.length_map, hn, hcs]; exact hf) (fun v hv => by obtain ⟨x, _, rfl⟩ := List.mem_map.1 hv; rfl)
  rw [List.length_map, hn] at hrun
  refine ⟨_, hrun, ⟨rfl, rfl, rfl, by simp [World.setRow], fun k hk => setRow_other W g k _ hk, fun e j x hx => ?_⟩, ⟨_, setRow_heap W g cur _ _ _ hh, ?_, ?_⟩⟩
  · by_cases eg : e = g
    · subst eg; exact absurd hx (N _ _)
    · exact World.cell?_of_block (setRow_other W g e _ eg)
  · simp [hc, List.map_take, List.map_drop]
  · simp at hn ⊢; omega
theorem wpo_copyN {W : World} {o : Oper} {a : Act} {K : Act → World → Prop} {Q : Exit → Act → World → Prop} (d s : Operand)
    (hop : o.op = .call { callee := .builtin .copy, args := #[d, s], argTypes := #[55, 55] }) {g off dn dc g2 o2 sn sc q : Nat} {dv sv : Value} (hd : a.eval d = dv) (hs : a.eval s = sv) (hd2 : dv = .slice (some ⟨g, off, none⟩) dn dc) (hs2 : sv = .slice (some ⟨g2, o2, none⟩) sn sc)
    {l l2 : List Int} (h : Bi W g l) (h2 : Bi W g2 l2) (hq : Nat.min sn dn = q) (hn : ((l2.drop o2).take q).length = q) (hf : off + q ≤ l.length)
    (hK : ∀ w', Sto W g w' → Bi w' g (l.take off ++ (l2.drop o2).take q ++ l.drop (off + q)) → K (a.put o.dst (.int .i64 (q : Int))) w') : o.wp Try.prog a W K Q := by
  subst hd2; subst hs2
  obtain ⟨w', hr, h3, h4⟩ := run_copyN (ty := o.type) (dc := dc) (sc := sc) h h2 hq hn hf
  unfold Oper.wp execOp
  simp only [hop, resolve, invoke, builtin, Sem.run_bind, Sem.run_pure, Result.andThen_ok, List.map_toArray, List.map_cons, List.map_nil, hd, hs, hr]
  exact hK _ h3 h4
theorem wp_copyN {W : World} {ops : Array Oper} {rest : List Oper} {o : Oper} {a : Act} {Q : Exit → Act → World → Prop} (hgd : o.guard = none) (d s : Operand)
    (hop : o.op = .call { callee := .builtin .copy, args := #[d, s], argTypes := #[55, 55] }) {g off dn dc g2 o2 sn sc q : Nat} {dv sv : Value} (hd : a.eval d = dv) (hs : a.eval s = sv) (hd2 : dv = .slice (some ⟨g, off, none⟩) dn dc) (hs2 : sv = .slice (some ⟨g2, o2, none⟩) sn sc)
    {l l2 : List Int} (h : Bi W g l) (h2 : Bi W g2 l2) (hq : Nat.min sn dn = q) (hn : ((l2.drop o2).take q).length = q) (hf : off + q ≤ l.length)
    (hK : ∀ w', Sto W g w' → Bi w' g (l.take off ++ (l2.drop o2).take q ++ l.drop (off + q)) → wpList Try.prog ops Q rest (a.put o.dst (.int .i64 (q : Int))) w') : wpList Try.prog ops Q (o :: rest) a W :=
  wpList_plain hgd fun K hK2 => wpo_copyN d s hop hd hs hd2 hs2 h h2 hq hn hf fun w' h3 h4 => hK2 _ _ (hK w' h3 h4)
theorem step_copyN {W : World} {ops : Array Oper} {o : Oper} {a : Act} {K : Act → World → Prop} {Q : Exit → Act → World → Prop} {E : Prop} (hgd : o.guard = none) (d s : Operand)
    (hop : o.op = .call { callee := .builtin .copy, args := #[d, s], argTypes := #[55, 55] }) {g off dn dc g2 o2 sn sc q : Nat} {dv sv : Value} (hd : a.eval d = dv) (hs : a.eval s = sv) (hd2 : dv = .slice (some ⟨g, off, none⟩) dn dc) (hs2 : sv = .slice (some ⟨g2, o2, none⟩) sn sc)
    {l l2 : List Int} (h : Bi W g l) (h2 : Bi W g2 l2) (hq : Nat.min sn dn = q) (hn : ((l2.drop o2).take q).length = q) (hf : off + q ≤ l.length)
    (hK : ∀ w', Sto W g w' → Bi w' g (l.take off ++ (l2.drop o2).take q ++ l.drop (off + q)) → K (a.put o.dst (.int .i64 (q : Int))) w') :
    if Region.wanted o (yielded ops a.tmps) = true then Oper.wp Try.prog o a W K Q else E := by
  rw [if_pos (by simp [Region.wanted, hgd])]
  exact wpo_copyN d s hop hd hs hd2 hs2 h h2 hq hn hf hK
end Go.Proofs.Ytbpamkpclofnbaa
namespace Go.Proofs.Ytbpamkpclofnbaa
open Go.RowKit
set_option linter.unusedVariables false
set_option maxRecDepth 100000
theorem Mbm_any {w : World} {n : Nat} (hn : n ≤ 100000) :
    Calls Try.prog 92 #[.int .u64 1, .int .u64 (n : Int)] w fun e w' => e = .returned (.tuple #[.int .u64 0, .int .u64 (n : Int)]) ∧ w' = w := by
  have m1 : bits .and .u64 1 4294967295 = 1 := by decide
  have m2 : bits .and .u64 (n : Int) 4294967295 = (n : Int) := by
    have h := bits_and_u64_nat n 4294967295 (by omega) (by omega)
    have e : n &&& 4294967295 = n % 4294967296 := Nat.and_two_pow_sub_one_eq_mod n 32
    rw [e, Nat.mod_eq_of_lt (by omega)] at h
    exact h
  have m3 : bits .and .u64 0 4294967295 = 0 := by decide
  have w1 : IntKind.u64.wrap (n : Int) = n := by rw [IntKind.wrap_u64]; omega
  have w0 : IntKind.u64.wrap 0 = 0 := by decide
  have d1 : (n : Int) / 4294967296 = 0 := by omega
  go_enter Try.func92, Try.ntmps92
  go_wp2
  go_ret2
  exact ⟨rfl, rfl⟩
end Go.Proofs.Ytbpamkpclofnbaa
namespace Go.Proofs.Ytbpamkpclofnbaa
open Go.RowKit
set_option linter.unusedVariables false
set_option maxRecDepth 100000

theorem rep_take {L : List Int} {k q : Nat} {X : Int} (h : L.take k = List.replicate k X) (hq : q ≤ k) : L.take q = List.replicate q X := by
  have : L.take q = (L.take k).take q := by rw [List.take_take, Nat.min_eq_left hq]
  rw [this, h, List.take_replicate, Nat.min_eq_left hq]
set_option maxHeartbeats 2000000 in
theorem Srepeat_any {w : World} {gx cx n : Nat} {X : Int} (x : Bi w gx [X]) (hn1 : 1 ≤ n) (hn : n ≤ 100000) :
    Calls Try.prog 77 #[.slice (some ⟨gx, 0, none⟩) 1 cx, .int .i64 (n : Int)] w fun e w' => ∃ g, e = .returned (.slice (some ⟨g, 0, none⟩) n n) ∧ w.heap.size ≤ g ∧ Bi w' g (List.replicate n X) ∧ Below w.heap.size w w' := by
  have hgx := x.lt
  have hw1 : IntKind.u64.wrap (n : Int) = n := by rw [IntKind.wrap_u64]; omega
  have hw2 : IntKind.i64.wrap (n : Int) = n := i64_keep (by omega) (by omega)
  have hlt : decide ((n : Int) < 0) = false := by simp
  have hq1 : Nat.min 1 n = 1 := by show min 1 n = 1; omega
  have hq2 : 0 + 1 ≤ (List.replicate n (0 : Int)).length := by simp; omega
  go_enter Try.func77, Try.ntmps77
  go_upto_region 7 with (first
    | (go_at_call 92; refine (Mbm_any hn).mono ?_; rintro e w9 ⟨rfl, hw9⟩; rw [hw9])
    | (at_make; refine wp_makeN rfl _ _ rfl n _ _ rfl rfl rfl rfl hn ?_; intro v1 p_g hb))
  go_wp2_with (first | (with_reducible refine wp_copyN (q := 1) rfl (.tmp 31) (.tmp 32) rfl rfl rfl rfl rfl p_g (x.keep hb) hq1 rfl hq2 ?_; intro v2 st p_g2))
  have hb2 : Below w.heap.size w v2 := ms1 st (Nat.le_refl _) hb
  have hr0 : ∃ L, Bi v2 w.heap.size L ∧ L.length = n ∧ L.take 1 = List.replicate 1 X := ⟨_, p_g2, by simp; omega, by simp⟩
  clear x st p_g p_g2 hb hq1 hq2 hw1 hw2 hlt
  go_loopw [8] (fun kv wr => ∃ k : Nat, 1 ≤ k ∧ k ≤ n ∧ kv = .int .i64 (k : Int) ∧ (∃ L, Bi wr w.heap.size L ∧ L.length = n ∧ L.take k = List.replicate k X) ∧ Below w.heap.size w wr) (fun kv _ => n - (intOf kv).toNat)
  case atStart => exact ⟨1, Nat.le_refl _, hn1, rfl, hr0, hb2⟩
  case round =>
    clear hr0 hb2
    obtain ⟨k, hk1, hk, rfl, ⟨L, p_g, hL, hT⟩, hb⟩ := hrel
    have HL := Lib.hid hL; have HT := Lib.hid hT
    clear hL hT
    rcases (show n = k ∨ k < n by omega) with hkn | hkn
    · subst hkn
      have hLe : L = List.replicate n X := by have := HT.out; rwa [List.take_of_length_le (by rw [HL.out]; exact Nat.le_refl _)] at this
      subst hLe
      go_wp2
      go_ret
      exact ⟨_, rfl, Nat.le_refl _, p_g, hb⟩
    · obtain ⟨q, hq⟩ : ∃ q, Nat.min k (n - k) = q := ⟨_, rfl⟩
      have hq1 : 1 ≤ q ∧ q ≤ k ∧ q ≤ n - k := by rw [← hq]; show 1 ≤ min k (n - k) ∧ min k (n - k) ≤ k ∧ min k (n - k) ≤ n - k; omega
      have hw : IntKind.i64.wrap ((k : Int) + (q : Int)) = (k : Int) + q := i64_keep (by omega) (by omega)
      have ha : ((⟨w.heap.size, 0, none⟩ : Addr).add k) = ⟨w.heap.size, k, none⟩ := by rw [add_offN]; simp
      have hs : ((n : Int) - (k : Int)).toNat = n - k := by omega
      have HQ := Lib.hid hq
      clear hq
      go_upto_region 9 with fail
      have p_d : Bi wr.drew w.heap.size L := p_g.keep (below_drew (Below.refl _ _))
      have hqn : ((L.drop 0).take q).length = q := by have := HL.out; simp; omega
      have hqf : k + q ≤ L.length := by have := HL.out; omega
      have hne : ¬ n = k := by omega
      have hL5 : (L.take k ++ (L.drop 0).take q ++ L.drop (k + q)).length = n := by have := HL.out; simp; omega
      have hT5 : (L.take k ++ (L.drop 0).take q ++ L.drop (k + q)).take (k + q) = List.replicate (k + q) X := by
        rw [HT.out, List.drop_zero, rep_take HT.out hq1.2.1, List.replicate_append_replicate]
        rw [List.take_append_of_le_length (by simp), List.take_of_length_le (by simp)]
      have HL5 := Lib.hid hL5; have HT5 := Lib.hid hT5; have HQN := Lib.hid hqn; have HQF := Lib.hid hqf
      clear hL5 hT5 hqn hqf
      refine wp_region_held_drew (S := fun w' => True) (by kernel_rfl) trivial (fun hHeld => ?_)
      refine wpAnyH_take (i := 0) (oi := ({ dst := some 38, op := Op.move (Operand.tmp 8), type := 3, pos := "slices.go:528", after := #[], guard := none } : Oper)) (v := ?_) rfl (by kernel_rfl) (by kernel_rfl) (by kernel_rfl) (fun _ _ _ h => h) (Or.inl ⟨by rfl, ?_⟩) (by assumption) ?_
      rotate_left
      · (intro w9 hSw; (try dsimp only at hSw); go_simp; all_goals with_reducible rfl)
      (try simp only [Act.put, List.setIfInBounds_toArray, List.set_cons_zero, List.set_cons_succ])
      refine wpAnyH_take (i := 1) (oi := ({ dst := some 39, op := Op.move (Operand.tmp 7), type := 55, pos := "slices.go:528", after := #[], guard := none } : Oper)) (v := ?_) rfl (by kernel_rfl) (by kernel_rfl) (by kernel_rfl) (fun _ _ _ h => h) (Or.inl ⟨by rfl, ?_⟩) (by assumption) ?_
      rotate_left
      · (intro w9 hSw; (try dsimp only at hSw); go_simp; all_goals with_reducible rfl)
      (try simp only [Act.put, List.setIfInBounds_toArray, List.set_cons_zero, List.set_cons_succ])
      refine wpAnyH_take (i := 2) (oi := ({ dst := some 40, op := Op.move (Operand.tmp 8), type := 3, pos := "slices.go:528", after := #[], guard := none } : Oper)) (v := ?_) rfl (by kernel_rfl) (by kernel_rfl) (by kernel_rfl) (fun _ _ _ h => h) (Or.inl ⟨by rfl, ?_⟩) (by assumption) ?_
      rotate_left
      · (intro w9 hSw; (try dsimp only at hSw); go_simp; all_goals with_reducible rfl)
      (try simp only [Act.put, List.setIfInBounds_toArray, List.set_cons_zero, List.set_cons_succ])
      refine wpAnyH_take (i := 3) (oi := ({ dst := some 41, op := Op.slice 55 (Operand.tmp 39) (some (Operand.tmp 40)) none none, type := 55, pos := "slices.go:528", after := #[{ on := 1, ground := Ground.data }, { on := 2, ground := Ground.data }], guard := none } : Oper)) (v := ?_) rfl (by kernel_rfl) (by kernel_rfl) (by kernel_rfl) (fun _ _ _ h => h) (Or.inl ⟨by rfl, ?_⟩) (by assumption) ?_
      rotate_left
      · (intro w9 hSw; (try dsimp only at hSw); go_simp; all_goals with_reducible rfl)
      (try simp only [Act.put, List.setIfInBounds_toArray, List.set_cons_zero, List.set_cons_succ])
      refine wpAnyH_take (i := 4) (oi := ({ dst := some 42, op := Op.move (Operand.tmp 7), type := 55, pos := "slices.go:528", after := #[], guard := none } : Oper)) (v := ?_) rfl (by kernel_rfl) (by kernel_rfl) (by kernel_rfl) (fun _ _ _ h => h) (Or.inl ⟨by rfl, ?_⟩) (by assumption) ?_
      rotate_left
      · (intro w9 hSw; (try dsimp only at hSw); go_simp; all_goals with_reducible rfl)
      (try simp only [Act.put, List.setIfInBounds_toArray, List.set_cons_zero, List.set_cons_succ])
      refine wpAnyH_take (i := 5) (oi := ({ dst := some 43, op := Op.move (Operand.tmp 8), type := 3, pos := "slices.go:528", after := #[], guard := none } : Oper)) (v := ?_) rfl (by kernel_rfl) (by kernel_rfl) (by kernel_rfl) (fun _ _ _ h => h) (Or.inl ⟨by rfl, ?_⟩) (by assumption) ?_
      rotate_left
      · (intro w9 hSw; (try dsimp only at hSw); go_simp; all_goals with_reducible rfl)
      (try simp only [Act.put, List.setIfInBounds_toArray, List.set_cons_zero, List.set_cons_succ])
      refine wpAnyH_take (i := 6) (oi := ({ dst := some 44, op := Op.slice 55 (Operand.tmp 42) none (some (Operand.tmp 43)) none, type := 55, pos := "slices.go:528", after := #[{ on := 4, ground := Ground.data }, { on := 5, ground := Ground.data }], guard := none } : Oper)) (v := ?_) rfl (by kernel_rfl) (by kernel_rfl) (by kernel_rfl) (fun _ _ _ h => h) (Or.inl ⟨by rfl, ?_⟩) (by assumption) ?_
      rotate_left
      · (intro w9 hSw; (try dsimp only at hSw); go_simp; all_goals with_reducible rfl)
      (try simp only [Act.put, List.setIfInBounds_toArray, List.set_cons_zero, List.set_cons_succ])
      refine wpAnyH_ready (rs := [7]) (by kernel_rfl) (by simp) ?_
      refine AllReadyH.cons (o := ({ dst := some 45, op := Op.call { callee := Callee.builtin Builtin.copy, args := #[Operand.tmp 41, Operand.tmp 44], argTypes := #[55, 55] }, type := 3, pos := "slices.go:528", after := #[{ on := 3, ground := Ground.data }, { on := 6, ground := Ground.data }], guard := none } : Oper)) rfl (fun K hK => ?_) AllReadyH.nil
      refine wpo_copyN (q := q) (.tmp 41) (.tmp 44) rfl (g := w.heap.size) (off := k) (dn := n - k) (dc := n - k) (g2 := w.heap.size) (o2 := 0) (sn := k) (sc := n) rfl rfl (by rfl) (by rfl) p_d p_d HQ.out HQN.out HQF.out ?_
      intro v5 st p5
      refine hK.out _ _ trivial (fun hHeld => ?_)
      clear hK K
      (try simp only [Act.put, List.setIfInBounds_toArray, List.set_cons_zero, List.set_cons_succ])
      refine wpAnyH_take (i := 8) (oi := ({ dst := some 46, op := Op.binOp BinOp.add 3 (Operand.tmp 38) (Operand.tmp 45) 3, type := 3, pos := "slices.go:528", after := #[{ on := 0, ground := Ground.data }, { on := 7, ground := Ground.data }], guard := none } : Oper)) (v := ?_) rfl (by kernel_rfl) (by kernel_rfl) (by kernel_rfl) (fun _ _ _ h => h) (Or.inl ⟨by rfl, ?_⟩) (by assumption) ?_
      rotate_left
      · (intro w9 hSw; (try dsimp only at hSw); go_simp; all_goals with_reducible rfl)
      (try simp only [Act.put, List.setIfInBounds_toArray, List.set_cons_zero, List.set_cons_succ])
      refine wpAnyH_ready (rs := [9]) (by kernel_rfl) (by simp) ?_
      refine AllReadyH.cons (o := ({ dst := some 8, op := Op.assign (Operand.tmp 46), type := 3, pos := "slices.go:528", after := #[{ on := 8, ground := Ground.data }, { on := 7, ground := Ground.chain }, { on := 0, ground := Ground.phase }, { on := 1, ground := Ground.phase }, { on := 2, ground := Ground.phase }, { on := 3, ground := Ground.phase }, { on := 4, ground := Ground.phase }, { on := 5, ground := Ground.phase }, { on := 6, ground := Ground.phase }, { on := 7, ground := Ground.phase }, { on := 8, ground := Ground.phase }], guard := none } : Oper)) rfl (fun K hK => ?_) AllReadyH.nil
      go_simp
      refine hK.out _ _ trivial (fun hHeld => ?_)
      clear hK K
      (try simp only [Act.put, List.setIfInBounds_toArray, List.set_cons_zero, List.set_cons_succ])
      refine wpAnyH_done (by kernel_rfl) ?_ _
      go_wp2_with fail
      have hb5 : Below w.heap.size w v5 := ms1 st (Nat.le_refl _) (hb.trans (below_drew (Below.refl _ _)))
      exact ⟨⟨k + q, by omega, by omega, by go_num, ⟨_, p5, HL5.out, HT5.out⟩, hb5⟩, by simp [intOf]; omega⟩
end Go.Proofs.Ytbpamkpclofnbaa
namespace Go.Proofs.Ytbpamkpclofnbaa
open Go.RowKit
open MP.Se (nf co)
set_option linter.unusedVariables false
set_option maxRecDepth 100000

/-- A slice of integers is handed back that is the polynomial s. -/
def OutS (w : World) (s : MP.Se) (K : Nat) (e : Ending) (w' : World) : Prop := ∃ L, MP.Se.Nm L ∧ co L = s ∧ OutP w L K e w'
theorem OutP.s {w w' : World} {L : List Int} {K : Nat} {e : Ending} (h : OutP w (nf L) K e w') : OutS w (co L) K e w' := ⟨nf L, MP.Se.nm_nf L, MP.Se.co_nf L, h⟩
/-- What the loops of Mul keep: the first list's beginning times the second one, and what has come of the next one. -/
def MuR (w : World) (P Q : List Int) (J J2 g : Nat) (A : Option Addr) (n c : Nat) (A2 : Option Addr) (n2 c2 i k : Nat) (wr : World) : Prop :=
  ∃ L : List Int, Pw wr g L (J + J2 + i * n2 + k) ∧ L.length = n + n2 - 1 ∧ co L = co (P.take i) * co Q + MP.Se.mo i (P.getD i 0) * co (Q.take k) ∧ Pe wr w.heap.size A n c P J ∧ Pe wr w.heap.size A2 n2 c2 Q J2 ∧ Below w.heap.size w wr
theorem MuR.next {w : World} {P Q : List Int} {J J2 g : Nat} {A : Option Addr} {n c : Nat} {A2 : Option Addr} {n2 c2 i : Nat} {wr : World} (hi : i < P.length) (hQ : Q.length = n2) (h : MuR w P Q J J2 g A n c A2 n2 c2 i n2 wr) : MuR w P Q J J2 g A n c A2 n2 c2 (i + 1) 0 wr := by
  obtain ⟨L, p, h1, h2, h3⟩ := h
  refine ⟨L, ?_, h1, ?_, h3⟩
  · rwa [Nat.add_zero, Nat.add_mul, Nat.one_mul, ← Nat.add_assoc]
  · rw [h2, MP.Se.co_take_all (l := Q) (k := n2) (by omega), List.getD_eq_getElem?_getD, List.getElem?_eq_getElem hi, List.take_zero, MP.Se.co_nil, MP.Se.mul_zero, MP.Se.add_zero]
    exact MP.Se.mul_round hi
theorem MuR.last {w : World} {P Q : List Int} {J J2 g : Nat} {A : Option Addr} {n c : Nat} {A2 : Option Addr} {n2 c2 : Nat} {wr : World} (hn : P.length = n) (h : MuR w P Q J J2 g A n c A2 n2 c2 n 0 wr) : ∃ L, Pw wr g L (J + J2 + n * n2) ∧ L.length = n + n2 - 1 ∧ co L = co P * co Q ∧ Below w.heap.size w wr := by
  obtain ⟨L, p, h1, h2, _, _, h3⟩ := h
  refine ⟨L, p, h1, ?_, h3⟩
  rw [h2, MP.Se.co_take_all (by omega), List.take_zero, MP.Se.co_nil, MP.Se.mul_zero, MP.Se.add_zero]
/-- One product more. -/
theorem mu_step {P Q L : List Int} {i k u : Nat} {X Y V Z : Int} (hi : i < P.length) (hk : k < Q.length) (hu : i + k < L.length) (h : co L = co (P.take i) * co Q + MP.Se.mo i (P.getD i 0) * co (Q.take k)) (hX : P[i] = X) (hY : Q[k] = Y) (hV : L[i + k] = V) :
    co (L.set (i + k) (V + X * Y)) = co (P.take i) * co Q + MP.Se.mo i (P.getD i 0) * co (Q.take (k + 1)) := by
  have e : P.getD i 0 = P[i] := by rw [List.getD_eq_getElem?_getD, List.getElem?_eq_getElem hi]; rfl
  rw [e] at h ⊢
  rw [MP.Se.mul_step hi hk, ← MP.Se.add_assoc, ← h, ← hV, ← hX, ← hY]
  exact MP.Se.co_set hu _
end Go.Proofs.Ytbpamkpclofnbaa
namespace Go.Proofs.Ytbpamkpclofnbaa
open Go.RowKit
open MP.Se (nf co)
set_option linter.unusedVariables false
set_option maxRecDepth 100000

/-- The sum of polynomials. -/
def sT (ts : List (Option Addr × Nat × Nat × List Int)) : MP.Se := ts.foldl (fun s t => s + co t.2.2.2) (MP.Se.c 0)
/-- How many coefficients they have together. -/
def tT (ts : List (Option Addr × Nat × Nat × List Int)) : Nat := ts.foldl (fun s t => s + t.2.1) 0
/-- Block g holds these slices of integers, all below block B. -/
def Tm (w : World) (g B : Nat) (ts : List (Option Addr × Nat × Nat × List Int)) (J : Nat) : Prop := g < w.heap.size ∧ ∀ k (hk : k < ts.length), w.cell? ⟨g, k, none⟩ = some (.slice ts[k].1 ts[k].2.1 ts[k].2.2.1) ∧ Pe w B ts[k].1 ts[k].2.1 ts[k].2.2.1 ts[k].2.2.2 J
section
variable {W v w' : World} {g h B J : Nat} {ts : List (Option Addr × Nat × Nat × List Int)}
theorem Tm.keep (t : Tm W g B ts J) (hb : Below W.heap.size W v) : Tm v g B ts J := ⟨Nat.lt_of_lt_of_le t.1 hb.size, fun k hk => ⟨(hb.cell (p := ⟨g, k, none⟩) t.1).trans (t.2 k hk).1, (t.2 k hk).2.keep hb⟩⟩
instance : Mv (Tm W g B ts J) W v (Tm v g B ts J) := ⟨fun x y => x.keep y⟩
instance : Ms (Tm W g B ts J) W v h (g ≠ h ∧ B ≤ h) (Tm v g B ts J) := ⟨fun s hg t => ⟨by rw [s.size]; exact t.1, fun k hk => ⟨(s.cell (p := ⟨g, k, none⟩) hg.1).trans (t.2 k hk).1, Ms.ms s hg.2 (t.2 k hk).2⟩⟩⟩
theorem sT_step {k : Nat} (hk : k < ts.length) : sT (ts.take (k + 1)) = sT (ts.take k) + co ts[k].2.2.2 := by
  rw [sT, sT, List.take_add_one, List.getElem?_eq_getElem hk, List.foldl_append]; rfl
theorem tT_step {k : Nat} (hk : k < ts.length) : tT (ts.take (k + 1)) = tT (ts.take k) + ts[k].2.1 := by
  rw [tT, tT, List.take_add_one, List.getElem?_eq_getElem hk, List.foldl_append]; rfl
theorem foldl_add (ts : List (Option Addr × Nat × Nat × List Int)) (a : Nat) : ts.foldl (fun s t => s + t.2.1) a = a + ts.foldl (fun s t => s + t.2.1) 0 := by
  induction ts generalizing a with
  | nil => simp
  | cons t ts ih => rw [List.foldl_cons, ih, List.foldl_cons, ih (0 + t.2.1)]; omega
theorem tT_le (k : Nat) : tT (ts.take k) ≤ tT ts := by
  conv => rhs; rw [← List.take_append_drop k ts, tT, List.foldl_append, foldl_add]
  exact Nat.le_add_right _ _
end
/-- What the loops of sum keep. -/
def SuR (w : World) (ts : List (Option Addr × Nat × Nat × List Int)) (l5 : List Int) (g B J S go k i : Nat) (wr : World) : Prop :=
  ∃ L : List Int, Pw wr go L (J + tT (ts.take k) + i) ∧ L.length = S ∧ co L = sT (ts.take k) + co (l5.take i) ∧ Tm wr g B ts J ∧ Below w.heap.size w wr
theorem SuR.next {w : World} {ts : List (Option Addr × Nat × Nat × List Int)} {l5 : List Int} {g B J S go k n : Nat} {wr : World} (hk : k < ts.length) (hn : ts[k].2.1 = n) (hl : ts[k].2.2.2 = l5) (hln : l5.length = n) (h : SuR w ts l5 g B J S go k n wr) : SuR w ts [] g B J S go (k + 1) 0 wr := by
  obtain ⟨L, p, h1, h2, h3⟩ := h
  refine ⟨L, ?_, h1, ?_, h3⟩
  · rwa [tT_step hk, hn, Nat.add_zero, ← Nat.add_assoc]
  · rw [h2, sT_step hk, hl, MP.Se.co_take_all (by omega), List.take_nil, MP.Se.co_nil, MP.Se.add_zero]
theorem SuR.to {w : World} {ts : List (Option Addr × Nat × Nat × List Int)} {l5 l6 : List Int} {g B J S go k : Nat} {wr : World} (h : SuR w ts l5 g B J S go k 0 wr) : SuR w ts l6 g B J S go k 0 wr := h
theorem su_step {L l5 : List Int} {i : Nat} {s : MP.Se} {X V : Int} (hi : i < l5.length) (hL : i < L.length) (h : co L = s + co (l5.take i)) (hX : l5[i] = X) (hV : L[i] = V) : co (L.set i (V + X)) = s + co (l5.take (i + 1)) := by
  rw [MP.Se.co_take_succ hi, ← MP.Se.add_assoc, ← h, ← hV, ← hX]
  exact MP.Se.co_set hL _
end Go.Proofs.Ytbpamkpclofnbaa
namespace Go.Proofs.Ytbpamkpclofnbaa
open Go.RowKit
open MP.Se (nf co)
set_option linter.unusedVariables false
set_option maxRecDepth 100000

theorem Pe.kto {w : World} {B n c J K : Nat} {A : Option Addr} {l : List Int} (h : Pe w B A n c l J) (hK : J ≤ K) : Pe w B A n c l K := ⟨h.1, h.2.kto hK⟩
theorem Tm.two {w : World} {g B n c n2 c2 J : Nat} {A A2 : Option Addr} {l l2 : List Int} (h : Pe w B A n c l J) (h2 : Pe w B A2 n2 c2 l2 J) {t : TypeId} (hg : w.heap[g]? = some (.cells #[.slice A n c, .slice A2 n2 c2] t (0, 0))) : Tm w g B [(A, n, c, l), (A2, n2, c2, l2)] J :=
  ⟨(Array.getElem?_eq_some_iff.1 hg).1, fun k hk => by
    rw [cell_of_row w g k _ _ (0, 0) hg]
    rcases k with _ | _ | k
    · exact ⟨rfl, h⟩
    · exact ⟨rfl, h2⟩
    · simp at hk; omega⟩
theorem Tm.three {w : World} {g B n c n2 c2 n3 c3 J : Nat} {A A2 A3 : Option Addr} {l l2 l3 : List Int} (h : Pe w B A n c l J) (h2 : Pe w B A2 n2 c2 l2 J) (h3 : Pe w B A3 n3 c3 l3 J) {t : TypeId} (hg : w.heap[g]? = some (.cells #[.slice A n c, .slice A2 n2 c2, .slice A3 n3 c3] t (0, 0))) : Tm w g B [(A, n, c, l), (A2, n2, c2, l2), (A3, n3, c3, l3)] J :=
  ⟨(Array.getElem?_eq_some_iff.1 hg).1, fun k hk => by
    rw [cell_of_row w g k _ _ (0, 0) hg]
    rcases k with _ | _ | _ | k
    · exact ⟨rfl, h⟩
    · exact ⟨rfl, h2⟩
    · exact ⟨rfl, h3⟩
    · simp at hk; omega⟩
theorem OutS.of {w w1 w' : World} {s : MP.Se} {K : Nat} {e : Ending} (h : OutS w1 s K e w') (hb : Below w.heap.size w w1) : OutS w s K e w' := by
  obtain ⟨L, h1, h2, A, n, c, e, hp, h3⟩ := h
  exact ⟨L, h1, h2, A, n, c, e, hp.more hb.size, bthen hb h3⟩
theorem PNormS_any {A : Option Addr} {n c J : Nat} {l : List Int} {w : World} (h : Pd w w.heap.size A n c l J) (hJ : J ≤ 1000000) :
    Calls Try.prog 43 #[.slice A n c] w (OutS w (co l) J) := by
  refine (PNorm_any h hJ).mono ?_
  intro e w' h
  exact ⟨_, MP.Se.nm_nf _, MP.Se.co_nf l, h⟩
end Go.Proofs.Ytbpamkpclofnbaa
namespace Go.Proofs.Ytbpamkpclofnbaa
open Go.RowKit
open MP.Se (nf co)
set_option linter.unusedVariables false
set_option maxRecDepth 100000

theorem add_off (d o j : Nat) : (⟨d, o, none⟩ : Addr).add j = ⟨d, o + j, none⟩ := by unfold Addr.add; split <;> simp_all
/-- m cells from a on. -/
def cellL (w : World) (a : Addr) (m : Nat) : List Value := (List.range m).map fun j => (w.cell? (a.add j)).getD (.bool false)
theorem cellL_at (w : World) (a : Addr) (m j : Nat) (hj : j < m) : (cellL w a m)[j]? = some ((w.cell? (a.add j)).getD (.bool false)) := by
  simp [cellL, hj]
/-- A new slice: one zero, and behind it the integers of another one. -/
theorem run_raise (w : World) (ty : TypeId) {B g n c J : Nat} {a : Addr} {l : List Int} (hx : w.heap[g]? = some (.cells #[.bool false, .slice none 0 0] 32 (0, 0))) (h : Pd w B (some a) n c l J) (hn1 : n + 1 ≤ 100000) :
    ∃ g' c' w', (Builtin.append_ #[66, 66] ty #[.slice (some ⟨g, 0, none⟩) 1 1, .slice (some a) n c]).run Try.prog w = .ok (.slice (some ⟨g', 0, none⟩) (1 + n) c') w' ∧ Pd w' w'.heap.size (some ⟨g', 0, none⟩) (1 + n) c' (0 :: l) J ∧ Fz (fun b => b = g) w w' := by
  obtain ⟨i0, hi, hz0, hz1, hz2⟩ := info_parts Try.infoI
  have hl := h.len
  have hbig := h.big
  have hel : ∀ k (hk : k < n), ∃ b A m c, w.cell? (a.add (k * 2)) = some (.bool b) ∧ w.cell? (a.add (k * 2 + 1)) = some (.slice A m c) ∧ Zr w b A m c (l[k]'(by omega)) J := fun k hk => by
    obtain ⟨d', o', e, _, hc⟩ := h.at_ (by omega)
    injection e with e; subst e
    rw [add_off, add_off, ← Nat.add_assoc]
    exact hc k (by omega)
  have hcell : ∀ j, j < n * 2 → ∃ u, w.cell? (a.add j) = some u ∧ u.oneCell' = true := fun j hj => by
    obtain ⟨b, A, m, c, h1, h2, _⟩ := hel (j / 2) (by omega)
    rcases (show j = j / 2 * 2 ∨ j = j / 2 * 2 + 1 by omega) with e | e
    · exact ⟨.bool b, by rw [e]; exact h1, rfl⟩
    · exact ⟨.slice A m c, by rw [e]; exact h2, rfl⟩
  have hN : (cellL w a (n * 2)).length = n * 2 := by simp [cellL]
  have hnews : ∀ j u, (cellL w a (n * 2))[j]? = some u → w.cell? (a.add j) = some u ∧ u.oneCell' = true := fun j u hj => by
    have hlt : j < n * 2 := by
      have := (List.getElem?_eq_some_iff.1 hj).1
      rwa [hN] at this
    rw [cellL_at _ _ _ _ hlt] at hj
    obtain ⟨u', hu, h1⟩ := hcell j hlt
    rw [hu] at hj
    injection hj with hj
    rw [hu]
    exact ⟨congrArg some hj, by rw [← hj]; exact h1⟩
  have hown : w.ownsRow 0 32 2 (.slice (some ⟨g, 0, none⟩) 1 1) 1 [.bool false, .slice none 0 0] := ⟨rfl, .inr ⟨g, 1, _, rfl, Nat.zero_le _, hx, Nat.le_refl _, by unfold maxLen; omega, rfl, rfl⟩⟩
  obtain ⟨v', w', hr, ho, hg, _⟩ := run_append_own (P := Try.prog) w 0 66 ty 32 i0 _ 2 32 Try.underlying66 hi hz0 hz1 hz2 rfl (by omega) _ 1 _ hown a n c (cellL w a (n * 2)) hN (fun j u hj => (hnews j u hj).1)
    (fun u hu => by obtain ⟨j, hj, e⟩ := List.getElem_of_mem hu; exact (hnews j u (by rw [List.getElem?_eq_getElem hj, e])).2) (by unfold maxLen; omega) (by omega) (Nat.zero_le _)
  have hf : Fz (fun b => b = g) w w' := ⟨hg.os, hg.tape, hg.output, hg.size, fun k hk hp => hg.block k hk (fun e => hp (by simpa [Value.ownBlock] using e)), fun A m c l r => by
    refine ⟨r.1, r.2.1, r.2.2.1, r.2.2.2.1, fun hm => ?_⟩
    obtain ⟨b, off, e, hb, hc⟩ := r.at_ hm
    have hne : b ≠ g := fun e2 => by
      subst e2
      have h0 := hc 0 (by have := r.len; omega)
      rw [cell_of_row w b _ _ _ (0, 0) hx] at h0
      rcases off with _ | _ | off <;> simp at h0
    refine ⟨b, off, e, Nat.lt_of_lt_of_le hb hg.size, fun k hk => ?_⟩
    rw [← hc k hk]
    exact World.cell?_of_block (hg.block b hb (fun e => hne (by simpa [Value.ownBlock] using e)))⟩
  rcases ho.2 with ⟨_, h0⟩ | ⟨g', cap, cur, rfl, _, hgg, hle, hm, hcs, hxs⟩
  · omega
  refine ⟨g', cap, w', hr, ⟨by simp; omega, hle, by omega, fun _ => ⟨g', 0, rfl, (Array.getElem?_eq_some_iff.1 hgg).1, fun k hk => ?_⟩⟩, hf⟩
  have hrow : ∀ i, i < (1 + n) * 2 → w'.cell? ⟨g', i, none⟩ = ([.bool false, .slice none 0 0] ++ cellL w a (n * 2))[i]? := fun i hi => by
    rw [cell_of_row w' g' i cur _ (0, 0) hgg, ← hxs, List.getElem?_take, if_pos hi]; simp
  have hk2 : k < n + 1 := by simpa [hl] using hk
  rw [Nat.zero_add]
  rcases k with _ | k
  · exact ⟨false, none, 0, 0, by rw [hrow _ (by omega)]; rfl, by rw [hrow _ (by omega)]; rfl, (Zn.zero _ _).zr⟩
  · obtain ⟨b, A, m, c, h1, h2, z⟩ := hel k (by omega)
    refine ⟨b, A, m, c, ?_, ?_, by rw [List.getElem_cons_succ]; exact z.via hf⟩
    · rw [hrow _ (by omega), show (k + 1) * 2 = k * 2 + 1 + 1 by omega]
      show (cellL w a (n * 2))[k * 2]? = _
      rw [cellL_at _ _ _ _ (by omega), h1]; rfl
    · rw [hrow _ (by omega), show (k + 1) * 2 + 1 = k * 2 + 1 + 1 + 1 by omega]
      show (cellL w a (n * 2))[k * 2 + 1]? = _
      rw [cellL_at _ _ _ _ (by omega), h2]; rfl
theorem wp_raise {w : World} {ops : Array Oper} {rest : List Oper} {o : Oper} {a : Act} {Q : Exit → Act → World → Prop} (hgd : o.guard = none) (s x : Operand)
    (hop : o.op = .call { callee := .builtin .append, args := #[s, x], argTypes := #[66, 66] }) {B g n c J : Nat} {ad : Addr} {l : List Int} (hx : w.heap[g]? = some (.cells #[.bool false, .slice none 0 0] 32 (0, 0))) (h : Pd w B (some ad) n c l J) (hn1 : n + 1 ≤ 100000)
    (hs : a.eval s = .slice (some ⟨g, 0, none⟩) 1 1) (hv : a.eval x = .slice (some ad) n c)
    (hK : ∀ g' c' w', Pd w' w'.heap.size (some ⟨g', 0, none⟩) (1 + n) c' (0 :: l) J → Fz (fun b => b = g) w w' → wpList Try.prog ops Q rest (a.put o.dst (.slice (some ⟨g', 0, none⟩) (1 + n) c')) w') : wpList Try.prog ops Q (o :: rest) a w :=
  wpList_plain hgd fun K hK2 => by
    obtain ⟨g', c', w', hr, h1, h2⟩ := run_raise w o.type hx h hn1
    unfold Oper.wp execOp
    simp only [hop, resolve, invoke, builtin, Sem.run_bind, Sem.run_pure, Result.andThen_ok, List.map_toArray, List.map_cons, List.map_nil, hs, hv, hr]
    exact hK2 _ _ (hK g' c' w' h1 h2)
end Go.Proofs.Ytbpamkpclofnbaa
namespace Go.Proofs.Ytbpamkpclofnbaa
open Go.RowKit
set_option linter.unusedVariables false
set_option maxRecDepth 100000

theorem run_clone (w : World) (ty : TypeId) {B n c J : Nat} {A : Option Addr} {l : List Int} (h : Pd w B A n c l J) (hn0 : 0 < n) (b0 : Addr) :
    ∃ cap w', (Builtin.append_ #[35, 35] ty #[.slice (some b0) 0 0, .slice A n c]).run Try.prog w = .ok (.slice (some ⟨w.heap.size, 0, none⟩) n cap) w' ∧ Pz w' w.heap.size l J ∧ n ≤ cap ∧ Below w.heap.size w w' := by
  obtain ⟨i0, hi, hz0, hz1, hz2⟩ := info_parts Try.infoI
  have hl := h.len
  have hbig := h.big
  obtain ⟨d, o, rfl, _, hc⟩ := h.at_ hn0
  have hel : ∀ k (hk : k < n), ∃ b A m c, w.cell? ((⟨d, o, none⟩ : Addr).add (k * 2)) = some (.bool b) ∧ w.cell? ((⟨d, o, none⟩ : Addr).add (k * 2 + 1)) = some (.slice A m c) ∧ Zr w b A m c (l[k]'(by omega)) J := fun k hk => by
    rw [add_off, add_off, ← Nat.add_assoc]
    exact hc k (by omega)
  have hcell : ∀ j, j < n * 2 → ∃ u, w.cell? ((⟨d, o, none⟩ : Addr).add j) = some u ∧ ∀ x, u ≠ .int .u64 x := fun j hj => by
    obtain ⟨b, A, m, c, h1, h2, _⟩ := hel (j / 2) (by omega)
    rcases (show j = j / 2 * 2 ∨ j = j / 2 * 2 + 1 by omega) with e | e
    · exact ⟨.bool b, by rw [e]; exact h1, fun x => by simp⟩
    · exact ⟨.slice A m c, by rw [e]; exact h2, fun x => by simp⟩
  have hN : (cellL w ⟨d, o, none⟩ (n * 2)).length = n * 2 := by simp [cellL]
  have hnews : ∀ j u, (cellL w ⟨d, o, none⟩ (n * 2))[j]? = some u → w.cell? ((⟨d, o, none⟩ : Addr).add j) = some u ∧ ∀ x, u ≠ .int .u64 x := fun j u hj => by
    have hlt : j < n * 2 := by
      have := (List.getElem?_eq_some_iff.1 hj).1
      rwa [hN] at this
    rw [cellL_at _ _ _ _ hlt] at hj
    obtain ⟨u', hu, h1⟩ := hcell j hlt
    rw [hu] at hj
    injection hj with hj
    rw [hu]
    exact ⟨congrArg some hj, by rw [← hj]; exact h1⟩
  have hr := run_append_grow (P := Try.prog) w 35 ty 32 i0 _ Try.underlying35 hi hz0 b0 0 0 [] (by simp) (fun j u hj => by simp at hj) ⟨d, o, none⟩ n c (cellL w ⟨d, o, none⟩ (n * 2)) (by rw [hz1]; exact hN) (fun j u hj => (hnews j u hj).1) (by omega) (by omega) (growslice_fits (by omega) (by rw [hz2]; omega))
  have hge := grownCap_ge w (0 + n) 0 32
  have hb := (below_drew (Below.refl w.heap.size w)).alloc (Nat.le_refl _) (.cells ([].toArray ++ (cellL w ⟨d, o, none⟩ (n * 2)).toArray ++ Builtin.zeroCells (Value.cells (.agg #[.bool false, .slice none 0 0])) (grownCap w (0 + n) 0 32 - (0 + n))) 32)
  rw [Nat.zero_add] at hr hge hb
  refine ⟨_, _, hr, ⟨_, heap_alloc_new w.drew _, ?_, by omega, ?_, fun k hk => ?_⟩, hge, hb⟩
  · simp [hN, hl]
  · intro u hu
    simp only [Array.toList_append, List.mem_append] at hu
    rcases hu with (hu | hu) | hu
    · simp at hu
    · obtain ⟨j, hj⟩ := List.getElem?_of_mem (show u ∈ cellL w ⟨d, o, none⟩ (n * 2) by simpa using hu)
      exact (hnews j u hj).2
    · exact kd_zero _ u hu
  · obtain ⟨b, A, m, c2, h1, h2, z⟩ := hel k (by omega)
    have e : ∀ j (hj : j < n * 2) (Z : Array Value), (([] : List Value).toArray ++ (cellL w ⟨d, o, none⟩ (n * 2)).toArray ++ Z)[j]? = w.cell? ((⟨d, o, none⟩ : Addr).add j) := fun j hj Z => by
      rw [Array.getElem?_append_left (by simp [hN, hj])]
      obtain ⟨u, hu, _⟩ := hcell j hj
      have := cellL_at w ⟨d, o, none⟩ (n * 2) j hj
      rw [hu] at this ⊢
      simpa using this
    exact ⟨b, A, m, c2, (e _ (by omega) _).trans h1, (e _ (by omega) _).trans h2, z.keep hb⟩
theorem wp_clone {W : World} {ops : Array Oper} {rest : List Oper} {o : Oper} {a : Act} {Q : Exit → Act → World → Prop} (hgd : o.guard = none) (s x : Operand)
    (hop : o.op = .call { callee := .builtin .append, args := #[s, x], argTypes := #[35, 35] }) {b0 : Addr} (hs : a.eval s = .slice (some b0) 0 0)
    {B n c J : Nat} {A : Option Addr} {l : List Int} (hx : a.eval x = .slice A n c) (h : Pd W B A n c l J) (hn : 0 < n)
    (hK : ∀ cap w', Pz w' W.heap.size l J → n ≤ cap → Below W.heap.size W w' → wpList Try.prog ops Q rest (a.put o.dst (.slice (some ⟨W.heap.size, 0, none⟩) n cap)) w') : wpList Try.prog ops Q (o :: rest) a W :=
  wpList_plain hgd fun K hK2 => by
    obtain ⟨cap, w', hr, h2, h3, h4⟩ := run_clone W o.type h hn b0
    unfold Oper.wp execOp
    simp only [hop, resolve, invoke, builtin, Sem.run_bind, Sem.run_pure, Result.andThen_ok, List.map_toArray, List.map_cons, List.map_nil, hs, hx, hr]
    exact hK2 _ _ (hK _ _ h2 h3 h4)
theorem Sclone_any {w : World} {n c J : Nat} {A : Option Addr} {l : List Int} (h : Pe w w.heap.size A n c l J) (hn : 0 < n) :
    Calls Try.prog 78 #[.slice A n c] w fun e w' => ∃ g cap, e = .returned (.slice (some ⟨g, 0, none⟩) n cap) ∧ w.heap.size ≤ g ∧ Pz w' g l J ∧ n ≤ cap ∧ Below w.heap.size w w' := by
  obtain ⟨d, o, rfl, _⟩ := h.2.at_ hn
  have hnil : ∀ w, (binOp .eql 35 (.slice (some ⟨d, o, none⟩) n c) (.slice none 0 0)).run Try.prog w = .ok (.bool false) w := fun w => Lib.run_eql_slice_nil (P := Try.prog) w 35 32 (some ⟨d, o, none⟩) n c 0 0 Try.underlying35
  go_enter Try.func78, Try.ntmps78
  go_upto_region 3 with fail
  go_wp2_with (at_builtin; refine wp_clone rfl _ _ rfl rfl rfl (h.keep (below_alloc _ _)).2 hn ?_; intro cap w2 hz hc hb)
  go_ret
  have hsz : (w.alloc (.cells #[] 32)).heap.size = w.heap.size + 1 := by simp
  have hb2 := bthen (below_alloc w (.cells #[] 32)) hb
  rw [hsz] at hz
  exact ⟨_, _, rfl, Nat.le_succ _, hz, hc, hb2⟩
end Go.Proofs.Ytbpamkpclofnbaa
namespace Go.Proofs.Ytbpamkpclofnbaa
open Go.RowKit
open MP.Se (nf co)
set_option linter.unusedVariables false
set_option maxRecDepth 100000

section
variable {w W : World} {g n cap k : Nat} {xs : List Value} {A : Option Addr} {m c : Nat}
theorem Oy.len (h : Oy w g n cap xs) : xs.length = n := by
  obtain ⟨cur, _, _, _, _, _, h, _⟩ := h
  exact h
theorem Oy.big (h : Oy w g n cap xs) : n ≤ maxLen := by
  obtain ⟨cur, _, h, h2, _⟩ := h
  exact Nat.le_trans h h2
theorem Oy.at_ (h : Oy w g n cap xs) (hk : k < xs.length) : Vc w g k xs[k] := by
  have hl := h.lt
  obtain ⟨cur, h, h1, h2, h3, h4, h5, _⟩ := h
  refine ⟨hl, ?_⟩
  rw [cell_of_row w g k _ _ (0, 0) h, ← Array.getElem?_toList]
  have : xs[k]? = cur.toList[k]? := by rw [← h4, List.getElem?_take_of_lt (by omega)]
  rw [← this, List.getElem?_eq_getElem hk]
theorem Oy.nl (h : Oy w g n cap xs) : Nl w g := by
  obtain ⟨cur, h, _, _, _, _, _, hk⟩ := h
  exact nl_of h fun i y e => hk _ (by have := Array.mem_of_getElem? e; simpa using this) y rfl
theorem Oy.fr (h : Oy w g n cap xs) (i : Nat) : w.frozen? ⟨g, i, none⟩ = false := by
  obtain ⟨cur, h, _⟩ := h
  simp [World.frozen?, h]
theorem Oy.set (h : Oy W g n cap xs) (hk : k < n) : Sto W g (W.setCell ⟨g, k, none⟩ (.slice A m c)) ∧ Oy (W.setCell ⟨g, k, none⟩ (.slice A m c)) g n cap (xs.set k (.slice A m c)) := by
  have N := h.nl
  refine ⟨(Sto.refl W g).set N, ?_⟩
  obtain ⟨cur, h, h1, h2, h3, h4, h5, h6⟩ := h
  refine ⟨cur.setIfInBounds k (.slice A m c), ?_, h1, h2, by simp [h3], ?_, by simp [h5], ?_⟩
  · simp [World.setCell, Array.getElem?_modify, h]
  · rw [Array.toList_setIfInBounds, List.take_set, h4]
  · exact kd_set h6 (by simp)
theorem Oy.sto {d : Nat} {v : World} (h : Oy W g n cap xs) (hd : g ≠ d) (s : Sto W d v) : Oy v g n cap xs := h.to (s.block _ hd)
instance Oy.ms {d : Nat} {v : World} : Ms (Oy W g n cap xs) W v d (g ≠ d) (Oy v g n cap xs) := ⟨fun s hd x => x.sto hd s⟩
end
/-- Two places of a list are exchanged. -/
def swp {α : Type} (l : List α) (i k : Nat) : List α := match l[i]?, l[k]? with
  | some a, some b => (l.set i b).set k a
  | _, _ => l
theorem swp_eq {α : Type} {l : List α} {i k : Nat} (hi : i < l.length) (hk : k < l.length) : swp l i k = (l.set i l[k]).set k l[i] := by
  simp [swp, List.getElem?_eq_getElem hi, List.getElem?_eq_getElem hk]
theorem swp_self {α : Type} {l : List α} {i : Nat} (hi : i < l.length) : swp l i i = l := by
  rw [swp_eq hi hi]
  simp
theorem Mexchange_any {w : World} {g d n cap i k m cm nn c : Nat} {P A A1 A2 : Option Addr} {s : Int} {b o : Bool} {xs : List Value} {m1 c1 m2 c2 : Nat}
    (he : Eb w g (some ⟨d, 0, none⟩) P n cap m cm s b A nn c o) (hr : Oy w d n cap xs) (hgd : g ≠ d) (hi : i < n) (hk : k < n) (hi2 : xs[i]? = some (.slice A1 m1 c1)) (hk2 : xs[k]? = some (.slice A2 m2 c2)) (hn : n ≤ 100000) :
    Calls Try.prog 80 #[.pointer (some ⟨g, 0, none⟩), .int .i64 (i : Int), .int .i64 (k : Int)] w fun e w' => e = .returned (.tuple #[]) ∧
      Eb w' g (some ⟨d, 0, none⟩) P n cap m cm s b A nn c (o != decide (i ≠ k)) ∧ Oy w' d n cap (swp xs i k) ∧ Fz (fun x => x = g ∨ x = d) w w' := by
  have hl := hr.len
  have hgl := he.lt
  have hdl := hr.lt
  obtain ⟨hil, hie⟩ := List.getElem?_eq_some_iff.1 hi2
  obtain ⟨hkl, hke⟩ := List.getElem?_eq_some_iff.1 hk2
  rcases (show i = k ∨ i ≠ k by omega) with hik | hik
  · subst hik
    have hxx := swp_self hil
    go_enter Try.func80, Try.ntmps80
    go_wp2
    go_end0
    exact ⟨rfl, by simpa using he, by rw [hxx]; exact hr, Fz.refl _⟩
  · have hne : ((i : Int) != k) = true := by simp; omega
    have hsw := swp_eq hil hkl
    rw [hie, hke] at hsw
    have c0 := he.c0; have c5 := he.c5
    have f0 := he.fr 5
    have r1 := (hr.at_ hil).al; have r2 := (hr.at_ hkl).al
    rw [hie] at r1; rw [hke] at r2
    have f1 := hr.fr i; have f2 := hr.fr k
    clear hie hke hi2 hk2 hl
    go_enter Try.func80, Try.ntmps80
    go_wp2_with fail
    go_region
    obtain ⟨s1, o1⟩ := hr.set (A := A2) (m := m2) (c := c2) hi
    obtain ⟨s2, o2⟩ := o1.set (A := A1) (m := m1) (c := c1) hk
    rw [← hsw] at o2
    have e2 := (he.sto hgd s1).sto hgd s2
    have f2 := (s1.fz.mono (Q := fun x => x = g ∨ x = d) fun _ _ e => .inr e).sto s2 (.inr (.inr rfl))
    have d2 : Below (w.heap.size) ((w.setCell ⟨d, i, none⟩ (.slice A2 m2 c2)).setCell ⟨d, k, none⟩ (.slice A1 m1 c1)) ((w.setCell ⟨d, i, none⟩ (.slice A2 m2 c2)).setCell ⟨d, k, none⟩ (.slice A1 m1 c1)).drew := below_drew (Below.refl _ _)
    have hz : ((w.setCell ⟨d, i, none⟩ (.slice A2 m2 c2)).setCell ⟨d, k, none⟩ (.slice A1 m1 c1)).heap.size = w.heap.size := by simp
    have e3 := e2.keep (by rw [hz]; exact d2)
    have o3 := o2.keep (by rw [hz]; exact d2)
    have f3 := f2.thenB (by rw [hz]; exact d2)
    clear d2 hz e2 o2 f2 s1 s2 o1 r1 r2 f0 f1 c0 c5
    generalize ((w.setCell ⟨d, i, none⟩ (.slice A2 m2 c2)).setCell ⟨d, k, none⟩ (.slice A1 m1 c1)).drew = v1 at *
    have c5 := e3.c5
    have f0 := e3.fr 5
    go_wp2
    obtain ⟨s4, e4⟩ := e3.odd (o' := !o)
    have hod : (o != decide (i ≠ k)) = !o := by simp [hik]
    rw [hod]
    have q1 := o3.sto (fun e => hgd e.symm) s4
    have q2 := f3.sto s4 (.inr (.inl rfl))
    go_end0
    exact ⟨rfl, e4, q1, q2⟩
end Go.Proofs.Ytbpamkpclofnbaa
