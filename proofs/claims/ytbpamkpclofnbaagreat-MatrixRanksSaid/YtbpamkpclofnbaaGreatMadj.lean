/-
  matrix: Adjugate.
-/
import Derived.Test.YtbpamkpclofnbaaGreatMcat
import Derived.Test.YtbpamkpclofnbaaGreatMmul2
namespace Go.Proofs.YtbpamkpclofnbaaGreat
open Go.RowKit
open MP.Se (nf co)
set_option linter.unusedVariables false
set_option maxRecDepth 100000

theorem par_sg (k : Nat) {β : Bool} (h : ((k : Int) % 2 == 1) = β) (Y : Int) : (if β then -Y else Y) = MD.sg k * Y := by
  rw [← h]
  unfold MD.sg
  rcases Nat.mod_two_eq_zero_or_one k with h | h
  · have : (k : Int) % 2 = 0 := by omega
    simp [h, this]
  · have : (k : Int) % 2 = 1 := by omega
    simp [h, this]
theorem ent_AdjC : ∀ (args : Array Value) (w : World), (callFunc 97 args).run Tryz.prog w = .ok (.enter 97 args) w := enters_of Tryz.func97 (by kernel_rfl) rfl
theorem AdjC_any {w : World} {ga na ca i k m J : Nat} {A : Option Addr} {M : List (List Int)} (x_a : Vc w ga 0 (.slice A na ca)) (h : Me w w.heap.size A na ca M J) (hM : Rt M na m) (hi : i < m) (hk : k < na) (hJ : J ≤ 1000000) :
    Calls Tryz.prog 97 #[.int .i64 (i : Int), .int .i64 (k : Int), .pointer (some ⟨ga, 0, none⟩)] w (OutZ w (MD.sg k * mx M k i) J) := by
  have h1 : k < M.length := by rw [hM.1]; exact hk
  have h3 : i < M[k].length := by rw [hM.2.2.2 k h1]; exact hi
  obtain ⟨d, o, A5, m5, c5, rfl, hd, x_i, p_i⟩ := h.row hk
  have hm5 : i < m5 := by rw [← p_i.2.len]; exact h3
  have hm5b := p_i.2.big
  obtain ⟨d3, o3, b7, A7, n7, c7, rfl, hd3, x_e, z7⟩ := p_i.ec hm5
  rw [← mx_at h1 h3] at z7
  obtain ⟨β, hβ⟩ : ∃ β, ((k : Int) % 2 == 1) = β := ⟨_, rfl⟩
  have HV : Hid ((if β then -(mx M k i) else mx M k i) = MD.sg k * mx M k i) := Lib.hid (par_sg k hβ _)
  generalize MD.sg k * mx M k i = V at *
  generalize mx M k i = Y at *
  have hna := h.big
  clear p_i h1 h3 hM h
  have hga := x_a.lt
  go_enter Tryz.func97, Tryz.ntmps97
  have hb := Below.refl w.heap.size w
  go_upto_region 1 with fail
  have hb0 := hb; clear hb
  refine al1 fun v1 hb x_r => ?_
  replace x_r := Bx.of x_r
  obtain ⟨x_a, x_i, x_e, z7⟩ := mv4 hb x_a x_i x_e z7
  have q_r := x_r.al
  have q_a := x_a.al
  have q_i := x_i.al
  have q_e := x_e.al
  go_wp2_with fail
  with_reducible refine (Msigned_any (β := β) z7 hJ).mono ?_
  rintro e v1 ⟨A8, n8, c8, rfl, z8, hb1⟩
  rw [HV.out] at z8 ⊢
  obtain ⟨x_r, hb⟩ := mv2 hb1 x_r hb
  clear hb1 q_a q_i q_e x_a x_i x_e z7
  replace q_r := x_r.al
  go_wp2
  refine x_r.st fun v2 hs hx => ?_
  have q_x := hx.al
  have hb2 : Below w.heap.size w v2 := ms1 hs (Nat.le_refl _) hb
  have z9 : Zn v2 A8 n8 c8 V J := Ms.ms hs trivial z8
  refine bodyPost_ret (v := .agg #[.bool (ngB V), .slice A8 n8 c8]) (by simp [results, Tryz.results97, go_sem, q_x]) rfl ?_
  exact ⟨_, _, _, rfl, z9, hb2⟩
/-- The rows without one. -/
def wo (M : List (List Int)) (k : Nat) : List (List Int) := M.take k ++ M.drop (k + 1)
theorem wo_len {M : List (List Int)} {n k : Nat} (h : M.length = n + 1) (hk : k < n + 1) : (wo M k).length = n := by simp [wo]; omega
theorem wo_at {M : List (List Int)} {k i : Nat} (hi : i < (wo M k).length) (hk : k < M.length) : (wo M k)[i] = M[MD.dl k i]'(by simp [wo] at hi; unfold MD.dl; split <;> omega) := by
  simp only [wo, List.getElem_append, List.length_take]
  by_cases h : i < k
  · rw [dif_pos (by omega), List.getElem_take]
    simp [MD.dl_lt h]
  · rw [dif_neg (by omega), List.getElem_drop]
    have e : k + 1 + (i - min k M.length) = MD.dl k i := by rw [MD.dl_ge (by omega)]; omega
    simp only [e]
theorem wo_mx {M : List (List Int)} {n m k : Nat} (h : Rt M (n + 1) m) (hk : k < n + 1) {i j : Nat} (hi : i < n) (hj : j < m) : mx (wo M k) i j = mx M (MD.dl k i) j := by
  have hl := wo_len h.1 hk
  have hi2 : i < (wo M k).length := by omega
  have hd : MD.dl k i < M.length := by rw [h.1]; exact MD.dl_bd hi
  have e := wo_at hi2 (by rw [h.1]; exact hk)
  have h3 := h.2.2.2 _ hd
  rw [mx_at hi2 (by rw [e, h3]; exact hj), mx_at hd (by rw [h3]; exact hj)]
  simp only [e]
/-- The numbers of the adjugate. -/
def adjF (n : Nat) (A : MD.Mx) (i k : Nat) : Int := MD.sg (i + k) * MD.det n (MD.mn A k i)
theorem adj_crs {M : List (List Int)} {n k i : Nat} (h : Rt M (n + 1) (n + 1)) (hk : k < n + 1) (hi : i < n + 1) : MD.sg k * crs n (mx (wo M k)) i = adjF n (mx M) i k := by
  unfold crs adjF
  rw [MD.sg_add, MD.det_congr (A := MD.cut (mx (wo M k)) i) (B := MD.mn (mx M) k i) fun a b ha hb => by
    simp only [MD.cut, MD.mn]
    exact wo_mx h hk ha (MD.dl_bd hb)]
  grind
theorem Me.cells {w : World} {B n c J : Nat} {A : Option Addr} {M : List (List Int)} (h : Me w B A n c M J) : ∃ xs, Rc w A n xs ∧ ∀ j (hj : j < M.length), ∃ A' m c', xs[j]? = some (.slice A' m c') ∧ Pd w B A' m c' M[j] J := by
  rcases Nat.eq_zero_or_pos n with h0 | h0
  · exact ⟨[], ⟨h0.symm, (fun u hu => by cases hu), fun h => by omega⟩, fun j hj => by have := h.len; omega⟩
  · obtain ⟨hB, hl, hc, hbg, hf⟩ := h
    obtain ⟨d, o, e, hd, hrow⟩ := hf h0
    have : ∃ f : Nat → Value, ∀ j (hj : j < M.length), ∃ A' m c', f j = .slice A' m c' ∧ w.cell? ⟨d, o + j, none⟩ = some (f j) ∧ Pd w B A' m c' M[j] J := by
      refine ⟨fun j => (w.cell? ⟨d, o + j, none⟩).getD (.slice none 0 0), fun j hj => ?_⟩
      obtain ⟨A', m, c', h1, h2⟩ := hrow j hj
      exact ⟨A', m, c', by simp [h1], by simp [h1], h2⟩
    obtain ⟨f, hf⟩ := this
    refine ⟨(List.range n).map f, ⟨by simp, fun u hu => ?_, fun _ => ⟨d, o, e, by omega, fun k hk => ?_⟩⟩, fun j hj => ?_⟩
    · obtain ⟨j, hj, rfl⟩ := List.mem_map.1 hu
      obtain ⟨A', m, c', h1, _⟩ := hf j (by have := List.mem_range.1 hj; omega)
      exact ⟨A', m, c', h1⟩
    · have hk2 : k < M.length := by simp at hk; omega
      obtain ⟨A', m, c', h1, h2, _⟩ := hf k hk2
      simpa using h2
    · obtain ⟨A', m, c', h1, _, h3⟩ := hf j hj
      exact ⟨A', m, c', by rw [List.getElem?_map, List.getElem?_range (by omega), Option.map_some, h1], h3⟩
theorem Rc.take {w : World} {A : Option Addr} {n k : Nat} {xs : List Value} (h : Rc w A n xs) (hk : k ≤ n) : Rc w A k (xs.take k) := ⟨by rw [List.length_take, h.1]; omega, fun u hu => h.2.1 u (List.mem_of_mem_take hu), fun h0 => by
  obtain ⟨d, o, e, hd, hc⟩ := h.2.2 (by omega)
  exact ⟨d, o, e, hd, fun j hj => by rw [List.getElem_take]; exact hc j (by rw [List.length_take] at hj; omega)⟩⟩
theorem Rc.drop {w : World} {d o n k : Nat} {xs : List Value} (h : Rc w (some ⟨d, o, none⟩) n xs) (hk : k ≤ n) {o' : Nat} (ho : k < n → o' = o + k) : Rc w (some ⟨d, o', none⟩) (n - k) (xs.drop k) := ⟨by rw [List.length_drop, h.1], fun u hu => h.2.1 u (List.mem_of_mem_drop hu), fun h0 => by
  obtain ⟨d2, o2, e, hd, hc⟩ := h.2.2 (by omega)
  injection e with e; injection e with e1 e2; subst e1; subst e2
  refine ⟨d, o', rfl, hd, fun j hj => ?_⟩
  rw [List.getElem_drop, ho (by omega), Nat.add_assoc]
  exact hc (k + j) (by rw [List.length_drop] at hj; omega)⟩
theorem Vc2.of {w : World} {g : Nat} {u v : Value} {ty : TypeId} (h : w.heap[g]? = some (.cells #[u, v] ty (0, 0))) : Vc w g 0 u ∧ Vc w g 1 v :=
  ⟨⟨(Array.getElem?_eq_some_iff.1 h).1, by rw [cell_of_row w g 0 _ _ (0, 0) h]; rfl⟩, ⟨(Array.getElem?_eq_some_iff.1 h).1, by rw [cell_of_row w g 1 _ _ (0, 0) h]; rfl⟩⟩
theorem Rc.drw {w : World} {A : Option Addr} {n : Nat} {xs : List Value} (h : Rc w A n xs) : Rc w.drew A n xs := h
theorem wo_cells {w v : World} {B n c J k : Nat} {A : Option Addr} {M : List (List Int)} {xs : List Value} (h : Me w B A n c M J) (hx : xs.length = n) (he : ∀ j (hj : j < M.length), ∃ A' m c', xs[j]? = some (.slice A' m c') ∧ Pd w B A' m c' M[j] J) (hk : k < n) (hb : Below w.heap.size w v) :
    ∀ j (hj : j < (wo M k).length), ∃ A' m c', (xs.take k ++ xs.drop (k + 1))[j]? = some (.slice A' m c') ∧ Pd v v.heap.size A' m c' (wo M k)[j] J := fun j hj => by
  have hl := h.len
  have hkM : k < M.length := by omega
  have hd : MD.dl k j < M.length := by
    have : (wo M k).length = M.length - 1 := by simp [wo]; omega
    have := MD.dl_bd (k := k) (n := M.length - 1) (j := j) (by omega)
    omega
  obtain ⟨A', m, c', h1, h2⟩ := he _ hd
  refine ⟨A', m, c', ?_, ?_⟩
  · rw [← h1]
    by_cases e : j < k
    · rw [List.getElem?_append_left (by rw [List.length_take]; omega), List.getElem?_take_of_lt e, MD.dl_lt e]
    · rw [List.getElem?_append_right (by rw [List.length_take]; omega), List.getElem?_drop, MD.dl_ge (by omega), List.length_take]
      congr 1; omega
  · rw [wo_at hj hkM]
    exact (h2.keep h.1 hb).more (Nat.le_trans h.1 hb.size)
theorem Oy.me {w : World} {g N cap J : Nat} {ys : List Value} {M : List (List Int)} (h : Oy w g N cap ys) (hN : N ≤ 100000) (hl : M.length = N) (he : ∀ j (hj : j < M.length), ∃ A' m c', ys[j]? = some (.slice A' m c') ∧ Pd w w.heap.size A' m c' M[j] J) : Me w w.heap.size (some ⟨g, 0, none⟩) N cap M J := by
  have hgl := h.lt
  obtain ⟨cur, hh, hnc, _, _, htk, hyl, _⟩ := h
  refine ⟨Nat.le_refl _, hl, hnc, hN, fun _ => ⟨g, 0, rfl, hgl, fun k hk => ?_⟩⟩
  obtain ⟨A', m, c', h1, h2⟩ := he k hk
  refine ⟨A', m, c', ?_, h2⟩
  rw [Nat.zero_add, cell_of_row w g k _ _ (0, 0) hh, ← Array.getElem?_toList, ← h1, ← htk, List.getElem?_take_of_lt (by omega)]
/-- What Adjugate tells. -/
def AdP (w : World) (M : List (List Int)) (n K : Nat) (e : Ending) (w' : World) : Prop :=
  (Rt M n n ∧ OutM w (mo2 (adjF (n - 1) (mx M)) n n) K e w') ∨ (¬ Rt M n n ∧ ErM w 1 e w')
/-- The columns that have been found. -/
def CoL (wr : World) (g n K k : Nat) (M : List (List Int)) : Prop :=
  ∃ cs, Bm wr g cs ∧ cs.length = n ∧ ∀ j, j < k → ∃ A c, cs[j]? = some (.slice A n c) ∧ Po wr (g + 1) A n c (lsN n (crs (n - 1) (mx (wo M j)))) K
/-- The columns, as a matrix. -/
def cmL (n : Nat) (M : List (List Int)) : List (List Int) := (List.range n).map fun k => lsN n (crs (n - 1) (mx (wo M k)))
theorem cmL_rt {n : Nat} {M : List (List Int)} (h : 0 < n) : Rt (cmL n M) n n := ⟨by simp [cmL], h, h, fun k hk => by simp [cmL, lsN]⟩
theorem cmL_at {n k i : Nat} {M : List (List Int)} (hk : k < n) (hi : i < n) : mx (cmL n M) k i = crs (n - 1) (mx (wo M k)) i := by
  have h1 : k < (cmL n M).length := by simp [cmL]; exact hk
  have h2 : (cmL n M)[k] = lsN n (crs (n - 1) (mx (wo M k))) := by simp [cmL]
  rw [mx_at h1 (by rw [h2, lsN_len]; exact hi)]
  simp [cmL, lsN]
theorem cmL_adj {n : Nat} {M : List (List Int)} (h : Rt M n n) : mo2 (fun i k => MD.sg k * mx (cmL n M) k i) n n = mo2 (adjF (n - 1) (mx M)) n n := by
  unfold mo2
  refine List.map_congr_left fun i hi => List.map_congr_left fun k hk => ?_
  have hi := List.mem_range.1 hi; have hk := List.mem_range.1 hk
  dsimp only
  rw [cmL_at hk hi]
  obtain ⟨m, rfl⟩ : ∃ m, n = m + 1 := ⟨n - 1, by omega⟩
  exact adj_crs h hk hi
theorem CoL.me {w : World} {g n K : Nat} {M : List (List Int)} (h : CoL w g n K n M) (hn : n ≤ 100000) : Me w w.heap.size (some ⟨g, 0, none⟩) n n (cmL n M) K := by
  obtain ⟨cs, b, hl, hj⟩ := h
  have hg := b.lt
  refine ⟨Nat.le_refl _, by simp [cmL], Nat.le_refl _, hn, fun _ => ⟨g, 0, rfl, hg, fun k hk => ?_⟩⟩
  have hkn : k < n := by simpa [cmL] using hk
  obtain ⟨A, c, h1, h2⟩ := hj k hkn
  refine ⟨A, n, c, ?_, ?_⟩
  · rw [Nat.zero_add]; exact (b.at_ h1).al
  · have e : (cmL n M)[k] = lsN n (crs (n - 1) (mx (wo M k))) := by simp [cmL]
    rw [e]; exact h2.pd
theorem Po.sto {W v : World} {g B n c J : Nat} {A : Option Addr} {l : List Int} (h : Po W B A n c l J) (hg : g < B) (s : Sto W g v) : Po v B A n c l J := by
  rcases h with h | ⟨k, L, h1, h2, h3, h4, h5, h6⟩
  · exact .inl h
  · exact .inr ⟨k, L, h1, h2, h3, h4, h5.sto (by omega) s, h6⟩
theorem CoL.next {v v9 : World} {g n K k c6 : Nat} {M : List (List Int)} {cs : List Value} {A6 : Option Addr} (b : Bm v9 g (cs.set k (.slice A6 n c6))) (st : Sto v g v9) (hk : k < cs.length) (hl : cs.length = n)
    (hj : ∀ j, j < k → ∃ A c, cs[j]? = some (.slice A n c) ∧ Po v (g + 1) A n c (lsN n (crs (n - 1) (mx (wo M j)))) K) (hp : Po v (g + 1) A6 n c6 (lsN n (crs (n - 1) (mx (wo M k)))) K) : CoL v9 g n K (k + 1) M := by
  refine ⟨_, b, by rw [List.length_set]; exact hl, fun j hjk => ?_⟩
  by_cases e : j = k
  · subst e
    exact ⟨A6, c6, by rw [List.getElem?_set_self hk], hp.sto (Nat.lt_succ_self _) st⟩
  · obtain ⟨A, c, h1, h2⟩ := hj j (by omega)
    exact ⟨A, c, by rw [List.getElem?_set_ne (by omega)]; exact h1, h2.sto (Nat.lt_succ_self _) st⟩
set_option maxHeartbeats 4000000 in
theorem MAdjugate_any {w : World} {n c J KM : Nat} {A : Option Addr} {M : List (List Int)} (h : Md w w.heap.size A n c M J) (hn : n ≤ 1000) (hJ : 1 ≤ J) (hK : kb J n ≤ KM) (hK2 : KM ≤ 900000) :
    Calls Tryz.prog 40 #[.slice A n c] w (AdP w M n KM) := by
  have hl := h.len
  replace h := h.me
  go_enter Tryz.func40, Tryz.ntmps40
  go_wp2_with fail
  with_reducible refine (Msquare_any h.md).mono ?_
  rintro e v1 ⟨hsq, hb⟩
  replace h := h.keep hb
  rcases hsq with ⟨rfl, hR⟩ | ⟨rfl, hR⟩
  rotate_left
  · have HR := Lib.hid hR
    clear hR h
    go_wp2
    go_ret2
    exact .inr ⟨HR.out, rfl, hb⟩
  · have HR := Lib.hid hR
    have hn1 := hR.2.1
    have hbs := hb.size
    clear hR
    go_upto_region 4 with (at_make; refine wp_makeM rfl _ _ rfl n _ _ rfl rfl rfl rfl (by omega) ?_; intro v2 p_c hb1; replace h := h.keep hb1; replace hb := bthen hb hb1; clear hb1)
    refine al1 fun v3 hb1 x_c => ?_
    replace x_c := Vc.of x_c
    have hgc := p_c.lt
    obtain ⟨h, p_c, hb⟩ := mv3 hb1 h p_c hb
    have hs3 := hb1.size
    clear hb1
    have q_c := x_c.al
    have hgc0 := hbs
    obtain ⟨gc, hgc2⟩ : ∃ g, v1.heap.size = g := ⟨_, rfl⟩
    obtain ⟨ge, hge2⟩ : ∃ g, v2.heap.size = g := ⟨_, rfl⟩
    rw [hgc2] at p_c hgc q_c x_c hgc0
    rw [hge2] at hgc x_c q_c
    simp only [hgc2, hge2]
    have hr0 : CoL v3 gc n KM 0 M := ⟨_, p_c, by simp, fun j hj => by omega⟩
    have hgw : w.heap.size ≤ gc := hgc0
    go_wp2_with fail
    go_loopw [14] (fun kv wr => ∃ k : Nat, k ≤ n ∧ kv = .int .i64 (k : Int) ∧ CoL wr gc n KM k M ∧ Me wr w.heap.size A n c M J ∧ Vc wr ge 0 (.slice (some ⟨gc, 0, none⟩) n n) ∧ Below w.heap.size w wr) (fun kv _ => n - (intOf kv).toNat)
    case atStart => exact ⟨0, by omega, rfl, hr0, h, x_c, hb⟩
    case round =>
      clear hr0 h x_c hb q_c p_c
      obtain ⟨k, hk, rfl, hco, h, x_c, hb⟩ := hrel
      have HCO := Lib.hid hco
      clear hco
      have q_c := x_c.al
      rcases (show n = k ∨ k < n by omega) with hkn | hkn
      · subst hkn
        have hme := HCO.out.me (by omega)
        have hCR : Rt (cmL n M) n n := cmL_rt hn1
        have C : Bc wr 97 #[.pointer (some ⟨ge, 0, none⟩)] (fun i k => MD.sg k * mx (cmL n M) k i) n n KM := ⟨ent_AdjC, fun w3 i k hi hk hb3 => AdjC_any (x_c.keep hb3) ((hme.keep hb3).md.me) hCR hi hk (by omega)⟩
        have HMO : Hid (mo2 (fun i k => MD.sg k * mx (cmL n M) k i) n n = mo2 (adjF (n - 1) (mx M)) n n) := Lib.hid (cmL_adj HR.out)
        have HC := Lib.hid C
        clear C hme hCR
        go_wp2_with fail
        with_reducible refine (Mbuild_any HC.out hn hn (by omega)).mono ?_
        rintro e v9 ⟨A9, c9, rfl, p9, hb1⟩
        rw [HMO.out] at p9
        replace hb := bthen hb hb1
        clear hb1 q_c x_c h
        go_wp2
        go_ret2
        exact .inl ⟨HR.out, _, _, _, rfl, p9, hb⟩
      · obtain ⟨d0, o0, A0, m0, c0, rfl, _, _, _⟩ := h.row hkn
        have hcp := h.2.cap
        have hw1 : IntKind.i64.wrap ((k : Int) + 1) = (k : Int) + 1 := i64_keep (by omega) (by omega)
        obtain ⟨xs, hxs, hxe⟩ := h.cells
        have HXE := Lib.hid hxe
        obtain ⟨cs, hcs, hcl, hcj⟩ := HCO.out
        have hgel := x_c.lt
        go_upto_region 7 with fail
        have hkc : k ≤ c := by omega
        have hkc2 : (k : Int) ≤ (c : Int) := by omega
        have hkn2 : (k : Int) + 1 ≤ (n : Int) := by omega
        have hkn3 : k + 1 ≤ n := by omega
        have hkn4 : (k : Int) + 1 ≤ (c : Int) := by omega
        have htn : ((k : Int) + 1).toNat = k + 1 := by omega
        have hgne : (⟨gc, k, none⟩ : Addr) ≠ ⟨ge, 0, none⟩ := fun e => by injection e with e; omega
        have hT : Hid (Rc wr (some ⟨d0, o0, none⟩) k (xs.take k)) := Lib.hid (hxs.take (by omega))
        have HCK : Hid (∃ u, cs[k]? = some u) := Lib.hid ⟨_, List.getElem?_eq_getElem (by omega)⟩
        obtain ⟨u0, hu0⟩ := HCK.out
        replace HCK : Hid (cs[k]? = some u0) := Lib.hid hu0
        have HCL : Hid (k < cs.length) := Lib.hid (by omega)
        have HCN := Lib.hid hcl
        have hgcl := hcs.lt
        have hgce : ge ≠ gc := by omega
        have HCJ := Lib.hid hcj
        have HWL : Hid ((wo M k).length = n - 1) := Lib.hid (by simp [wo]; omega)
        have HWR : Hid (∀ j (hj : j < (wo M k).length), (wo M k)[j].length = n) := Lib.hid fun j hj => by
          rw [wo_at hj (by omega)]; exact HR.out.2.2.2 _ _
        clear hu0 hxe hcj hcl
        rcases (show n = 1 ∨ 1 < n by omega) with hn2 | hn2
        · have HL1 : Hid (lsN n (crs (n - 1) (mx (wo M k))) = [1]) := Lib.hid (by subst hn2; rfl)
          have HN2 := Lib.hid hn2; have HK1 : Hid (1 ≤ KM) := Lib.hid (by have := kb_mono (J := J) (Nat.zero_le n); simp only [kb] at this; omega); have hka : (k : Int) ≤ (k : Int) + 1 := by omega
          have hkb : (0 : Int) ≤ (k : Int) + 1 := by omega
          clear hn2
          rcases (show k + 1 = c ∨ ¬ c = k + 1 by omega) with hck | hck
          · skip
            have hD : Hid (Rc wr (some ⟨d0, o0, none⟩) 0 (xs.drop (k + 1))) := Lib.hid (by have := hxs.drop (o' := o0) (k := k + 1) (by omega) (fun h => by omega); rwa [show n - (k + 1) = 0 by omega] at this)
            refine wp_region_held_drew (S := fun w' => w'.cell? ⟨ge, 0, none⟩ = some (.slice (some ⟨gc, 0, none⟩) n n)) (by kernel_rfl) x_c.c0 (fun hHeld => ?_)
            refine wpAnyH_take (i := 0) (oi := ({ dst := some 17, op := Op.load 35 (Operand.tmp 4), type := 35, pos := "solve.go:19", after := #[], guard := none } : Oper)) (v := ?_) rfl (by kernel_rfl) (by kernel_rfl) (by kernel_rfl) (fun _ _ _ h => h) (Or.inl ⟨by rfl, ?_⟩) (by assumption) ?_
            rotate_left
            · (intro w9 hSw; (try dsimp only at hSw); go_simp; all_goals with_reducible rfl)
            (try simp only [Act.put, List.setIfInBounds_toArray, List.set_cons_zero, List.set_cons_succ])
            refine wpAnyH_take (i := 1) (oi := ({ dst := some 18, op := Op.move (Operand.tmp 5), type := 3, pos := "solve.go:19", after := #[], guard := none } : Oper)) (v := ?_) rfl (by kernel_rfl) (by kernel_rfl) (by kernel_rfl) (fun _ _ _ h => h) (Or.inl ⟨by rfl, ?_⟩) (by assumption) ?_
            rotate_left
            · (intro w9 hSw; (try dsimp only at hSw); go_simp; all_goals with_reducible rfl)
            (try simp only [Act.put, List.setIfInBounds_toArray, List.set_cons_zero, List.set_cons_succ])
            refine wpAnyH_take (i := 2) (oi := ({ dst := some 19, op := Op.move (Operand.tmp 0), type := 35, pos := "solve.go:19", after := #[], guard := none } : Oper)) (v := ?_) rfl (by kernel_rfl) (by kernel_rfl) (by kernel_rfl) (fun _ _ _ h => h) (Or.inl ⟨by rfl, ?_⟩) (by assumption) ?_
            rotate_left
            · (intro w9 hSw; (try dsimp only at hSw); go_simp; all_goals with_reducible rfl)
            (try simp only [Act.put, List.setIfInBounds_toArray, List.set_cons_zero, List.set_cons_succ])
            refine wpAnyH_take (i := 3) (oi := ({ dst := some 20, op := Op.move (Operand.tmp 5), type := 3, pos := "solve.go:19", after := #[], guard := none } : Oper)) (v := ?_) rfl (by kernel_rfl) (by kernel_rfl) (by kernel_rfl) (fun _ _ _ h => h) (Or.inl ⟨by rfl, ?_⟩) (by assumption) ?_
            rotate_left
            · (intro w9 hSw; (try dsimp only at hSw); go_simp; all_goals with_reducible rfl)
            (try simp only [Act.put, List.setIfInBounds_toArray, List.set_cons_zero, List.set_cons_succ])
            refine wpAnyH_take (i := 4) (oi := ({ dst := some 21, op := Op.slice 35 (Operand.tmp 19) none (some (Operand.tmp 20)) none, type := 35, pos := "solve.go:19", after := #[{ on := 2, ground := Ground.data }, { on := 3, ground := Ground.data }], guard := none } : Oper)) (v := ?_) rfl (by kernel_rfl) (by kernel_rfl) (by kernel_rfl) (fun _ _ _ h => h) (Or.inl ⟨by rfl, ?_⟩) (by assumption) ?_
            rotate_left
            · (intro w9 hSw; (try dsimp only at hSw); go_simp; all_goals with_reducible rfl)
            (try simp only [Act.put, List.setIfInBounds_toArray, List.set_cons_zero, List.set_cons_succ])
            refine wpAnyH_take (i := 5) (oi := ({ dst := some 22, op := Op.move (Operand.tmp 0), type := 35, pos := "solve.go:19", after := #[], guard := none } : Oper)) (v := ?_) rfl (by kernel_rfl) (by kernel_rfl) (by kernel_rfl) (fun _ _ _ h => h) (Or.inl ⟨by rfl, ?_⟩) (by assumption) ?_
            rotate_left
            · (intro w9 hSw; (try dsimp only at hSw); go_simp; all_goals with_reducible rfl)
            (try simp only [Act.put, List.setIfInBounds_toArray, List.set_cons_zero, List.set_cons_succ])
            refine wpAnyH_take (i := 6) (oi := ({ dst := some 23, op := Op.move (Operand.tmp 5), type := 3, pos := "solve.go:19", after := #[], guard := none } : Oper)) (v := ?_) rfl (by kernel_rfl) (by kernel_rfl) (by kernel_rfl) (fun _ _ _ h => h) (Or.inl ⟨by rfl, ?_⟩) (by assumption) ?_
            rotate_left
            · (intro w9 hSw; (try dsimp only at hSw); go_simp; all_goals with_reducible rfl)
            (try simp only [Act.put, List.setIfInBounds_toArray, List.set_cons_zero, List.set_cons_succ])
            refine wpAnyH_take (i := 7) (oi := ({ dst := some 24, op := Op.binOp BinOp.add 3 (Operand.tmp 23) (Operand.const (Value.int IntKind.i64 1)) 3, type := 3, pos := "solve.go:19", after := #[{ on := 6, ground := Ground.data }], guard := none } : Oper)) (v := ?_) rfl (by kernel_rfl) (by kernel_rfl) (by kernel_rfl) (fun _ _ _ h => h) (Or.inl ⟨by rfl, ?_⟩) (by assumption) ?_
            rotate_left
            · (intro w9 hSw; (try dsimp only at hSw); go_simp; all_goals with_reducible rfl)
            (try simp only [Act.put, List.setIfInBounds_toArray, List.set_cons_zero, List.set_cons_succ])
            refine wpAnyH_take (i := 8) (oi := ({ dst := some 25, op := Op.slice 35 (Operand.tmp 22) (some (Operand.tmp 24)) none none, type := 35, pos := "solve.go:19", after := #[{ on := 5, ground := Ground.data }, { on := 7, ground := Ground.data }], guard := none } : Oper)) (v := ?_) rfl (by kernel_rfl) (by kernel_rfl) (by kernel_rfl) (fun _ _ _ h => h) (Or.inl ⟨by rfl, ?_⟩) (by assumption) ?_
            rotate_left
            · (intro w9 hSw; (try dsimp only at hSw); go_simp; all_goals with_reducible rfl)
            (try simp only [Act.put, List.setIfInBounds_toArray, List.set_cons_zero, List.set_cons_succ])
            refine wpAnyH_ready (rs := [9]) (by kernel_rfl) (by simp) ?_
            refine AllReadyH.cons (o := ({ dst := some 26, op := Op.buildSlice 109 2 #[(0, Operand.tmp 21), (1, Operand.tmp 25)], type := 109, pos := "solve.go:19", after := #[{ on := 4, ground := Ground.data }, { on := 8, ground := Ground.data }], guard := none } : Oper)) rfl (fun K hK => ?_) AllReadyH.nil
            go_simp
            refine hK.out _ _ (by exact (x_c.alloc _).c0) (fun hHeld => ?_)
            clear hK K
            (try simp only [Act.put, List.setIfInBounds_toArray, List.set_cons_zero, List.set_cons_succ])
            refine wpAnyH_ready (rs := [10]) (by kernel_rfl) (by simp) ?_
            refine AllReadyH.cons (o := ({ dst := some 27, op := Op.call { callee := Callee.value (Operand.func 96), args := #[Operand.tmp 26], argTypes := #[109] }, type := 35, pos := "solve.go:19", after := #[{ on := 9, ground := Ground.data }], guard := none } : Oper)) rfl (fun K hK => ?_) AllReadyH.nil
            go_simp
            with_reducible refine (Sconcat_any (N := n - 1) ((Vc2.of (heap_alloc_new wr _)).1.drw) ((Vc2.of (heap_alloc_new wr _)).2.drw) ((hT.out.keep (below_alloc wr _)).drw) ((hD.out.keep (below_alloc wr _)).drw) (by omega) (by omega)).mono ?_
            rintro e v5 ⟨s, rfl, cv⟩
            have hbt : Below wr.heap.size wr v5 := bthen (below_drew (below_alloc wr _)) cv.2.1
            have x_c5 := x_c.keep hbt
            obtain rfl : s = .slice none 0 0 := by rcases cv.2.2 with ⟨_, e⟩ | ⟨h, _⟩; exact e; (have := HN2.out; omega)
            (try go_wp2_with fail)
            refine hK.out _ _ (by exact x_c5.c0) (fun hHeld => ?_)
            clear hK K
            (try simp only [Act.put, List.setIfInBounds_toArray, List.set_cons_zero, List.set_cons_succ])
            refine wpAnyH_ready (rs := [11]) (by kernel_rfl) (by simp) ?_
            refine AllReadyH.cons (o := ({ dst := some 28, op := Op.call { callee := Callee.value (Operand.func 95), args := #[Operand.tmp 27], argTypes := #[35] }, type := 22, pos := "solve.go:19", after := #[{ on := 10, ground := Ground.data }, { on := 10, ground := Ground.chain }], guard := none } : Oper)) rfl (fun K hK => ?_) AllReadyH.nil
            go_simp
            with_reducible refine (Mcross0_any).mono ?_
            rintro e v6 ⟨A6, n6, c6, rfl, p6, hb1⟩
            have hbt6 := bthen hbt hb1
            have x_c6 := x_c5.keep hb1
            have b_c := hcs.keep hbt6
            have f_c := b_c.fr k; have q_k := (b_c.at_ HCK.out).al
            have hp6 : Po v6 (gc + 1) A6 n6 c6 (lsN n (crs (n - 1) (mx (wo M k)))) KM := by rw [HL1.out]; exact (p6.more (by have := hbt.size; omega)).kto HK1.out
            have hn6 : n6 = n := by rw [← hp6.pd.len, lsN_len]
            (try go_wp2_with fail)
            refine hK.out _ _ (by exact x_c6.c0) (fun hHeld => ?_)
            clear hK K
            (try simp only [Act.put, List.setIfInBounds_toArray, List.set_cons_zero, List.set_cons_succ])
            refine wpAnyH_take (i := 12) (oi := ({ dst := some 29, op := Op.indexAddr 35 (Operand.tmp 17) (Operand.tmp 18), type := 0, pos := "solve.go:19", after := #[{ on := 0, ground := Ground.data }, { on := 1, ground := Ground.data }, { on := 0, ground := Ground.phase }, { on := 1, ground := Ground.phase }, { on := 2, ground := Ground.phase }, { on := 3, ground := Ground.phase }, { on := 4, ground := Ground.phase }, { on := 5, ground := Ground.phase }, { on := 6, ground := Ground.phase }, { on := 7, ground := Ground.phase }, { on := 8, ground := Ground.phase }, { on := 9, ground := Ground.phase }, { on := 10, ground := Ground.phase }, { on := 11, ground := Ground.phase }], guard := none } : Oper)) (v := ?_) rfl (by kernel_rfl) (by kernel_rfl) (by kernel_rfl) (fun _ _ _ h => h) (Or.inl ⟨by rfl, ?_⟩) (by assumption) ?_
            rotate_left
            · (intro w9 hSw; (try dsimp only at hSw); go_simp; all_goals with_reducible rfl)
            (try simp only [Act.put, List.setIfInBounds_toArray, List.set_cons_zero, List.set_cons_succ])
            refine wpAnyH_ready (rs := [13]) (by kernel_rfl) (by simp) ?_
            refine AllReadyH.cons (o := ({ dst := none, op := Op.store 22 (Operand.tmp 29) (Operand.tmp 28), type := 0, pos := "solve.go:19", after := #[{ on := 12, ground := Ground.data }, { on := 11, ground := Ground.data }, { on := 11, ground := Ground.chain }, { on := 0, ground := Ground.phase }, { on := 1, ground := Ground.phase }, { on := 2, ground := Ground.phase }, { on := 3, ground := Ground.phase }, { on := 4, ground := Ground.phase }, { on := 5, ground := Ground.phase }, { on := 6, ground := Ground.phase }, { on := 7, ground := Ground.phase }, { on := 8, ground := Ground.phase }, { on := 9, ground := Ground.phase }, { on := 10, ground := Ground.phase }, { on := 11, ground := Ground.phase }], guard := none } : Oper)) rfl (fun K hK => ?_) AllReadyH.nil
            go_simp
            refine hK.out _ _ (by exact (World.cell?_setCell_other _ _ _ _ hgne).trans x_c6.c0) (fun hHeld => ?_)
            clear hK K
            (try simp only [Act.put, List.setIfInBounds_toArray, List.set_cons_zero, List.set_cons_succ])
            refine wpAnyH_done (by kernel_rfl) ?_ _
            subst hn6
            obtain ⟨st, b_c9⟩ := b_c.set (k := k) (A := A6) (n := n6) (c := c6) HCL.out
            have hb9 : Below w.heap.size w _ := ms1 st hgw (bthen hb hbt6)
            have x_c9 := x_c6.sto hgce st
            have h9 : Me _ w.heap.size (some ⟨d0, o0, none⟩) n6 c M J := (h.keep hbt6).sto hgw st
            have hco9 : CoL _ gc n6 KM (k + 1) M := CoL.next b_c9 st HCL.out HCN.out (fun j hj => by obtain ⟨A, c, h1, h2⟩ := HCJ.out j hj; exact ⟨A, c, h1, h2.keep hbt6⟩) hp6
            go_wp2_with fail
            exact ⟨⟨k + 1, by omega, by go_num, hco9, h9, x_c9, hb9⟩, by simp [intOf]; omega⟩
          · skip
            have hD : Hid (Rc wr (some ⟨d0, o0 + (k + 1), none⟩) (n - (k + 1)) (xs.drop (k + 1))) := Lib.hid (hxs.drop (by omega) (fun h => rfl))
            refine wp_region_held_drew (S := fun w' => w'.cell? ⟨ge, 0, none⟩ = some (.slice (some ⟨gc, 0, none⟩) n n)) (by kernel_rfl) x_c.c0 (fun hHeld => ?_)
            refine wpAnyH_take (i := 0) (oi := ({ dst := some 17, op := Op.load 35 (Operand.tmp 4), type := 35, pos := "solve.go:19", after := #[], guard := none } : Oper)) (v := ?_) rfl (by kernel_rfl) (by kernel_rfl) (by kernel_rfl) (fun _ _ _ h => h) (Or.inl ⟨by rfl, ?_⟩) (by assumption) ?_
            rotate_left
            · (intro w9 hSw; (try dsimp only at hSw); go_simp; all_goals with_reducible rfl)
            (try simp only [Act.put, List.setIfInBounds_toArray, List.set_cons_zero, List.set_cons_succ])
            refine wpAnyH_take (i := 1) (oi := ({ dst := some 18, op := Op.move (Operand.tmp 5), type := 3, pos := "solve.go:19", after := #[], guard := none } : Oper)) (v := ?_) rfl (by kernel_rfl) (by kernel_rfl) (by kernel_rfl) (fun _ _ _ h => h) (Or.inl ⟨by rfl, ?_⟩) (by assumption) ?_
            rotate_left
            · (intro w9 hSw; (try dsimp only at hSw); go_simp; all_goals with_reducible rfl)
            (try simp only [Act.put, List.setIfInBounds_toArray, List.set_cons_zero, List.set_cons_succ])
            refine wpAnyH_take (i := 2) (oi := ({ dst := some 19, op := Op.move (Operand.tmp 0), type := 35, pos := "solve.go:19", after := #[], guard := none } : Oper)) (v := ?_) rfl (by kernel_rfl) (by kernel_rfl) (by kernel_rfl) (fun _ _ _ h => h) (Or.inl ⟨by rfl, ?_⟩) (by assumption) ?_
            rotate_left
            · (intro w9 hSw; (try dsimp only at hSw); go_simp; all_goals with_reducible rfl)
            (try simp only [Act.put, List.setIfInBounds_toArray, List.set_cons_zero, List.set_cons_succ])
            refine wpAnyH_take (i := 3) (oi := ({ dst := some 20, op := Op.move (Operand.tmp 5), type := 3, pos := "solve.go:19", after := #[], guard := none } : Oper)) (v := ?_) rfl (by kernel_rfl) (by kernel_rfl) (by kernel_rfl) (fun _ _ _ h => h) (Or.inl ⟨by rfl, ?_⟩) (by assumption) ?_
            rotate_left
            · (intro w9 hSw; (try dsimp only at hSw); go_simp; all_goals with_reducible rfl)
            (try simp only [Act.put, List.setIfInBounds_toArray, List.set_cons_zero, List.set_cons_succ])
            refine wpAnyH_take (i := 4) (oi := ({ dst := some 21, op := Op.slice 35 (Operand.tmp 19) none (some (Operand.tmp 20)) none, type := 35, pos := "solve.go:19", after := #[{ on := 2, ground := Ground.data }, { on := 3, ground := Ground.data }], guard := none } : Oper)) (v := ?_) rfl (by kernel_rfl) (by kernel_rfl) (by kernel_rfl) (fun _ _ _ h => h) (Or.inl ⟨by rfl, ?_⟩) (by assumption) ?_
            rotate_left
            · (intro w9 hSw; (try dsimp only at hSw); go_simp; all_goals with_reducible rfl)
            (try simp only [Act.put, List.setIfInBounds_toArray, List.set_cons_zero, List.set_cons_succ])
            refine wpAnyH_take (i := 5) (oi := ({ dst := some 22, op := Op.move (Operand.tmp 0), type := 35, pos := "solve.go:19", after := #[], guard := none } : Oper)) (v := ?_) rfl (by kernel_rfl) (by kernel_rfl) (by kernel_rfl) (fun _ _ _ h => h) (Or.inl ⟨by rfl, ?_⟩) (by assumption) ?_
            rotate_left
            · (intro w9 hSw; (try dsimp only at hSw); go_simp; all_goals with_reducible rfl)
            (try simp only [Act.put, List.setIfInBounds_toArray, List.set_cons_zero, List.set_cons_succ])
            refine wpAnyH_take (i := 6) (oi := ({ dst := some 23, op := Op.move (Operand.tmp 5), type := 3, pos := "solve.go:19", after := #[], guard := none } : Oper)) (v := ?_) rfl (by kernel_rfl) (by kernel_rfl) (by kernel_rfl) (fun _ _ _ h => h) (Or.inl ⟨by rfl, ?_⟩) (by assumption) ?_
            rotate_left
            · (intro w9 hSw; (try dsimp only at hSw); go_simp; all_goals with_reducible rfl)
            (try simp only [Act.put, List.setIfInBounds_toArray, List.set_cons_zero, List.set_cons_succ])
            refine wpAnyH_take (i := 7) (oi := ({ dst := some 24, op := Op.binOp BinOp.add 3 (Operand.tmp 23) (Operand.const (Value.int IntKind.i64 1)) 3, type := 3, pos := "solve.go:19", after := #[{ on := 6, ground := Ground.data }], guard := none } : Oper)) (v := ?_) rfl (by kernel_rfl) (by kernel_rfl) (by kernel_rfl) (fun _ _ _ h => h) (Or.inl ⟨by rfl, ?_⟩) (by assumption) ?_
            rotate_left
            · (intro w9 hSw; (try dsimp only at hSw); go_simp; all_goals with_reducible rfl)
            (try simp only [Act.put, List.setIfInBounds_toArray, List.set_cons_zero, List.set_cons_succ])
            refine wpAnyH_take (i := 8) (oi := ({ dst := some 25, op := Op.slice 35 (Operand.tmp 22) (some (Operand.tmp 24)) none none, type := 35, pos := "solve.go:19", after := #[{ on := 5, ground := Ground.data }, { on := 7, ground := Ground.data }], guard := none } : Oper)) (v := ?_) rfl (by kernel_rfl) (by kernel_rfl) (by kernel_rfl) (fun _ _ _ h => h) (Or.inl ⟨by rfl, ?_⟩) (by assumption) ?_
            rotate_left
            · (intro w9 hSw; (try dsimp only at hSw); go_simp; all_goals with_reducible rfl)
            (try simp only [Act.put, List.setIfInBounds_toArray, List.set_cons_zero, List.set_cons_succ])
            refine wpAnyH_ready (rs := [9]) (by kernel_rfl) (by simp) ?_
            refine AllReadyH.cons (o := ({ dst := some 26, op := Op.buildSlice 109 2 #[(0, Operand.tmp 21), (1, Operand.tmp 25)], type := 109, pos := "solve.go:19", after := #[{ on := 4, ground := Ground.data }, { on := 8, ground := Ground.data }], guard := none } : Oper)) rfl (fun K hK => ?_) AllReadyH.nil
            go_simp
            refine hK.out _ _ (by exact (x_c.alloc _).c0) (fun hHeld => ?_)
            clear hK K
            (try simp only [Act.put, List.setIfInBounds_toArray, List.set_cons_zero, List.set_cons_succ])
            refine wpAnyH_ready (rs := [10]) (by kernel_rfl) (by simp) ?_
            refine AllReadyH.cons (o := ({ dst := some 27, op := Op.call { callee := Callee.value (Operand.func 96), args := #[Operand.tmp 26], argTypes := #[109] }, type := 35, pos := "solve.go:19", after := #[{ on := 9, ground := Ground.data }], guard := none } : Oper)) rfl (fun K hK => ?_) AllReadyH.nil
            go_simp
            with_reducible refine (Sconcat_any (N := n - 1) ((Vc2.of (heap_alloc_new wr _)).1.drw) ((Vc2.of (heap_alloc_new wr _)).2.drw) ((hT.out.keep (below_alloc wr _)).drw) ((hD.out.keep (below_alloc wr _)).drw) (by omega) (by omega)).mono ?_
            rintro e v5 ⟨s, rfl, cv⟩
            have hbt : Below wr.heap.size wr v5 := bthen (below_drew (below_alloc wr _)) cv.2.1
            have x_c5 := x_c.keep hbt
            obtain rfl : s = .slice none 0 0 := by rcases cv.2.2 with ⟨_, e⟩ | ⟨h, _⟩; exact e; (have := HN2.out; omega)
            (try go_wp2_with fail)
            refine hK.out _ _ (by exact x_c5.c0) (fun hHeld => ?_)
            clear hK K
            (try simp only [Act.put, List.setIfInBounds_toArray, List.set_cons_zero, List.set_cons_succ])
            refine wpAnyH_ready (rs := [11]) (by kernel_rfl) (by simp) ?_
            refine AllReadyH.cons (o := ({ dst := some 28, op := Op.call { callee := Callee.value (Operand.func 95), args := #[Operand.tmp 27], argTypes := #[35] }, type := 22, pos := "solve.go:19", after := #[{ on := 10, ground := Ground.data }, { on := 10, ground := Ground.chain }], guard := none } : Oper)) rfl (fun K hK => ?_) AllReadyH.nil
            go_simp
            with_reducible refine (Mcross0_any).mono ?_
            rintro e v6 ⟨A6, n6, c6, rfl, p6, hb1⟩
            have hbt6 := bthen hbt hb1
            have x_c6 := x_c5.keep hb1
            have b_c := hcs.keep hbt6
            have f_c := b_c.fr k; have q_k := (b_c.at_ HCK.out).al
            have hp6 : Po v6 (gc + 1) A6 n6 c6 (lsN n (crs (n - 1) (mx (wo M k)))) KM := by rw [HL1.out]; exact (p6.more (by have := hbt.size; omega)).kto HK1.out
            have hn6 : n6 = n := by rw [← hp6.pd.len, lsN_len]
            (try go_wp2_with fail)
            refine hK.out _ _ (by exact x_c6.c0) (fun hHeld => ?_)
            clear hK K
            (try simp only [Act.put, List.setIfInBounds_toArray, List.set_cons_zero, List.set_cons_succ])
            refine wpAnyH_take (i := 12) (oi := ({ dst := some 29, op := Op.indexAddr 35 (Operand.tmp 17) (Operand.tmp 18), type := 0, pos := "solve.go:19", after := #[{ on := 0, ground := Ground.data }, { on := 1, ground := Ground.data }, { on := 0, ground := Ground.phase }, { on := 1, ground := Ground.phase }, { on := 2, ground := Ground.phase }, { on := 3, ground := Ground.phase }, { on := 4, ground := Ground.phase }, { on := 5, ground := Ground.phase }, { on := 6, ground := Ground.phase }, { on := 7, ground := Ground.phase }, { on := 8, ground := Ground.phase }, { on := 9, ground := Ground.phase }, { on := 10, ground := Ground.phase }, { on := 11, ground := Ground.phase }], guard := none } : Oper)) (v := ?_) rfl (by kernel_rfl) (by kernel_rfl) (by kernel_rfl) (fun _ _ _ h => h) (Or.inl ⟨by rfl, ?_⟩) (by assumption) ?_
            rotate_left
            · (intro w9 hSw; (try dsimp only at hSw); go_simp; all_goals with_reducible rfl)
            (try simp only [Act.put, List.setIfInBounds_toArray, List.set_cons_zero, List.set_cons_succ])
            refine wpAnyH_ready (rs := [13]) (by kernel_rfl) (by simp) ?_
            refine AllReadyH.cons (o := ({ dst := none, op := Op.store 22 (Operand.tmp 29) (Operand.tmp 28), type := 0, pos := "solve.go:19", after := #[{ on := 12, ground := Ground.data }, { on := 11, ground := Ground.data }, { on := 11, ground := Ground.chain }, { on := 0, ground := Ground.phase }, { on := 1, ground := Ground.phase }, { on := 2, ground := Ground.phase }, { on := 3, ground := Ground.phase }, { on := 4, ground := Ground.phase }, { on := 5, ground := Ground.phase }, { on := 6, ground := Ground.phase }, { on := 7, ground := Ground.phase }, { on := 8, ground := Ground.phase }, { on := 9, ground := Ground.phase }, { on := 10, ground := Ground.phase }, { on := 11, ground := Ground.phase }], guard := none } : Oper)) rfl (fun K hK => ?_) AllReadyH.nil
            go_simp
            refine hK.out _ _ (by exact (World.cell?_setCell_other _ _ _ _ hgne).trans x_c6.c0) (fun hHeld => ?_)
            clear hK K
            (try simp only [Act.put, List.setIfInBounds_toArray, List.set_cons_zero, List.set_cons_succ])
            refine wpAnyH_done (by kernel_rfl) ?_ _
            subst hn6
            obtain ⟨st, b_c9⟩ := b_c.set (k := k) (A := A6) (n := n6) (c := c6) HCL.out
            have hb9 : Below w.heap.size w _ := ms1 st hgw (bthen hb hbt6)
            have x_c9 := x_c6.sto hgce st
            have h9 : Me _ w.heap.size (some ⟨d0, o0, none⟩) n6 c M J := (h.keep hbt6).sto hgw st
            have hco9 : CoL _ gc n6 KM (k + 1) M := CoL.next b_c9 st HCL.out HCN.out (fun j hj => by obtain ⟨A, c, h1, h2⟩ := HCJ.out j hj; exact ⟨A, c, h1, h2.keep hbt6⟩) hp6
            go_wp2_with fail
            exact ⟨⟨k + 1, by omega, by go_num, hco9, h9, x_c9, hb9⟩, by simp [intOf]; omega⟩
        · have hka : (k : Int) ≤ (k : Int) + 1 := by omega
          have hkb : (0 : Int) ≤ (k : Int) + 1 := by omega
          rcases (show k + 1 = c ∨ ¬ c = k + 1 by omega) with hck | hck
          · skip
            have hD : Hid (Rc wr (some ⟨d0, o0, none⟩) 0 (xs.drop (k + 1))) := Lib.hid (by have := hxs.drop (o' := o0) (k := k + 1) (by omega) (fun h => by omega); rwa [show n - (k + 1) = 0 by omega] at this)
            refine wp_region_held_drew (S := fun w' => w'.cell? ⟨ge, 0, none⟩ = some (.slice (some ⟨gc, 0, none⟩) n n)) (by kernel_rfl) x_c.c0 (fun hHeld => ?_)
            refine wpAnyH_take (i := 0) (oi := ({ dst := some 17, op := Op.load 35 (Operand.tmp 4), type := 35, pos := "solve.go:19", after := #[], guard := none } : Oper)) (v := ?_) rfl (by kernel_rfl) (by kernel_rfl) (by kernel_rfl) (fun _ _ _ h => h) (Or.inl ⟨by rfl, ?_⟩) (by assumption) ?_
            rotate_left
            · (intro w9 hSw; (try dsimp only at hSw); go_simp; all_goals with_reducible rfl)
            (try simp only [Act.put, List.setIfInBounds_toArray, List.set_cons_zero, List.set_cons_succ])
            refine wpAnyH_take (i := 1) (oi := ({ dst := some 18, op := Op.move (Operand.tmp 5), type := 3, pos := "solve.go:19", after := #[], guard := none } : Oper)) (v := ?_) rfl (by kernel_rfl) (by kernel_rfl) (by kernel_rfl) (fun _ _ _ h => h) (Or.inl ⟨by rfl, ?_⟩) (by assumption) ?_
            rotate_left
            · (intro w9 hSw; (try dsimp only at hSw); go_simp; all_goals with_reducible rfl)
            (try simp only [Act.put, List.setIfInBounds_toArray, List.set_cons_zero, List.set_cons_succ])
            refine wpAnyH_take (i := 2) (oi := ({ dst := some 19, op := Op.move (Operand.tmp 0), type := 35, pos := "solve.go:19", after := #[], guard := none } : Oper)) (v := ?_) rfl (by kernel_rfl) (by kernel_rfl) (by kernel_rfl) (fun _ _ _ h => h) (Or.inl ⟨by rfl, ?_⟩) (by assumption) ?_
            rotate_left
            · (intro w9 hSw; (try dsimp only at hSw); go_simp; all_goals with_reducible rfl)
            (try simp only [Act.put, List.setIfInBounds_toArray, List.set_cons_zero, List.set_cons_succ])
            refine wpAnyH_take (i := 3) (oi := ({ dst := some 20, op := Op.move (Operand.tmp 5), type := 3, pos := "solve.go:19", after := #[], guard := none } : Oper)) (v := ?_) rfl (by kernel_rfl) (by kernel_rfl) (by kernel_rfl) (fun _ _ _ h => h) (Or.inl ⟨by rfl, ?_⟩) (by assumption) ?_
            rotate_left
            · (intro w9 hSw; (try dsimp only at hSw); go_simp; all_goals with_reducible rfl)
            (try simp only [Act.put, List.setIfInBounds_toArray, List.set_cons_zero, List.set_cons_succ])
            refine wpAnyH_take (i := 4) (oi := ({ dst := some 21, op := Op.slice 35 (Operand.tmp 19) none (some (Operand.tmp 20)) none, type := 35, pos := "solve.go:19", after := #[{ on := 2, ground := Ground.data }, { on := 3, ground := Ground.data }], guard := none } : Oper)) (v := ?_) rfl (by kernel_rfl) (by kernel_rfl) (by kernel_rfl) (fun _ _ _ h => h) (Or.inl ⟨by rfl, ?_⟩) (by assumption) ?_
            rotate_left
            · (intro w9 hSw; (try dsimp only at hSw); go_simp; all_goals with_reducible rfl)
            (try simp only [Act.put, List.setIfInBounds_toArray, List.set_cons_zero, List.set_cons_succ])
            refine wpAnyH_take (i := 5) (oi := ({ dst := some 22, op := Op.move (Operand.tmp 0), type := 35, pos := "solve.go:19", after := #[], guard := none } : Oper)) (v := ?_) rfl (by kernel_rfl) (by kernel_rfl) (by kernel_rfl) (fun _ _ _ h => h) (Or.inl ⟨by rfl, ?_⟩) (by assumption) ?_
            rotate_left
            · (intro w9 hSw; (try dsimp only at hSw); go_simp; all_goals with_reducible rfl)
            (try simp only [Act.put, List.setIfInBounds_toArray, List.set_cons_zero, List.set_cons_succ])
            refine wpAnyH_take (i := 6) (oi := ({ dst := some 23, op := Op.move (Operand.tmp 5), type := 3, pos := "solve.go:19", after := #[], guard := none } : Oper)) (v := ?_) rfl (by kernel_rfl) (by kernel_rfl) (by kernel_rfl) (fun _ _ _ h => h) (Or.inl ⟨by rfl, ?_⟩) (by assumption) ?_
            rotate_left
            · (intro w9 hSw; (try dsimp only at hSw); go_simp; all_goals with_reducible rfl)
            (try simp only [Act.put, List.setIfInBounds_toArray, List.set_cons_zero, List.set_cons_succ])
            refine wpAnyH_take (i := 7) (oi := ({ dst := some 24, op := Op.binOp BinOp.add 3 (Operand.tmp 23) (Operand.const (Value.int IntKind.i64 1)) 3, type := 3, pos := "solve.go:19", after := #[{ on := 6, ground := Ground.data }], guard := none } : Oper)) (v := ?_) rfl (by kernel_rfl) (by kernel_rfl) (by kernel_rfl) (fun _ _ _ h => h) (Or.inl ⟨by rfl, ?_⟩) (by assumption) ?_
            rotate_left
            · (intro w9 hSw; (try dsimp only at hSw); go_simp; all_goals with_reducible rfl)
            (try simp only [Act.put, List.setIfInBounds_toArray, List.set_cons_zero, List.set_cons_succ])
            refine wpAnyH_take (i := 8) (oi := ({ dst := some 25, op := Op.slice 35 (Operand.tmp 22) (some (Operand.tmp 24)) none none, type := 35, pos := "solve.go:19", after := #[{ on := 5, ground := Ground.data }, { on := 7, ground := Ground.data }], guard := none } : Oper)) (v := ?_) rfl (by kernel_rfl) (by kernel_rfl) (by kernel_rfl) (fun _ _ _ h => h) (Or.inl ⟨by rfl, ?_⟩) (by assumption) ?_
            rotate_left
            · (intro w9 hSw; (try dsimp only at hSw); go_simp; all_goals with_reducible rfl)
            (try simp only [Act.put, List.setIfInBounds_toArray, List.set_cons_zero, List.set_cons_succ])
            refine wpAnyH_ready (rs := [9]) (by kernel_rfl) (by simp) ?_
            refine AllReadyH.cons (o := ({ dst := some 26, op := Op.buildSlice 109 2 #[(0, Operand.tmp 21), (1, Operand.tmp 25)], type := 109, pos := "solve.go:19", after := #[{ on := 4, ground := Ground.data }, { on := 8, ground := Ground.data }], guard := none } : Oper)) rfl (fun K hK => ?_) AllReadyH.nil
            go_simp
            refine hK.out _ _ (by exact (x_c.alloc _).c0) (fun hHeld => ?_)
            clear hK K
            (try simp only [Act.put, List.setIfInBounds_toArray, List.set_cons_zero, List.set_cons_succ])
            refine wpAnyH_ready (rs := [10]) (by kernel_rfl) (by simp) ?_
            refine AllReadyH.cons (o := ({ dst := some 27, op := Op.call { callee := Callee.value (Operand.func 96), args := #[Operand.tmp 26], argTypes := #[109] }, type := 35, pos := "solve.go:19", after := #[{ on := 9, ground := Ground.data }], guard := none } : Oper)) rfl (fun K hK => ?_) AllReadyH.nil
            go_simp
            with_reducible refine (Sconcat_any (N := n - 1) ((Vc2.of (heap_alloc_new wr _)).1.drw) ((Vc2.of (heap_alloc_new wr _)).2.drw) ((hT.out.keep (below_alloc wr _)).drw) ((hD.out.keep (below_alloc wr _)).drw) (by omega) (by omega)).mono ?_
            rintro e v5 ⟨s, rfl, cv⟩
            have hbt : Below wr.heap.size wr v5 := bthen (below_drew (below_alloc wr _)) cv.2.1
            have x_c5 := x_c.keep hbt
            obtain ⟨g9, cap9, rfl, oy⟩ : ∃ g cap, s = .slice (some ⟨g, 0, none⟩) (n - 1) cap ∧ Oy v5 g (n - 1) cap (xs.take k ++ xs.drop (k + 1)) := by
              rcases cv.2.2 with ⟨h, _⟩ | ⟨_, g, cap, e, _, h2, h3⟩
              · omega
              · exact ⟨g, cap, e, h3⟩
            have hme := oy.me (J := J) (by omega) HWL.out (wo_cells h hxs.1 HXE.out hkn hbt)
            (try go_wp2_with fail)
            refine hK.out _ _ (by exact x_c5.c0) (fun hHeld => ?_)
            clear hK K
            (try simp only [Act.put, List.setIfInBounds_toArray, List.set_cons_zero, List.set_cons_succ])
            refine wpAnyH_ready (rs := [11]) (by kernel_rfl) (by simp) ?_
            refine AllReadyH.cons (o := ({ dst := some 28, op := Op.call { callee := Callee.value (Operand.func 95), args := #[Operand.tmp 27], argTypes := #[35] }, type := 22, pos := "solve.go:19", after := #[{ on := 10, ground := Ground.data }, { on := 10, ground := Ground.chain }], guard := none } : Oper)) rfl (fun K hK => ?_) AllReadyH.nil
            go_simp
            with_reducible refine (Mcross_any (m := n) hme (by omega) HWR.out (by omega) (by omega) hJ (by have := kb_mono (J := J) (Nat.sub_le n 1); omega)).mono ?_
            rintro e v6 ⟨A6, n6, c6, rfl, p6, hb1⟩
            have hbt6 := bthen hbt hb1
            have x_c6 := x_c5.keep hb1
            have b_c := hcs.keep hbt6
            have f_c := b_c.fr k; have q_k := (b_c.at_ HCK.out).al
            have hp6 : Po v6 (gc + 1) A6 n6 c6 (lsN n (crs (n - 1) (mx (wo M k)))) KM := (p6.more (by have := hbt.size; omega)).kto (by have := kb_mono (J := J) (Nat.sub_le n 1); omega)
            have hn6 : n6 = n := by rw [← hp6.pd.len, lsN_len]
            (try go_wp2_with fail)
            refine hK.out _ _ (by exact x_c6.c0) (fun hHeld => ?_)
            clear hK K
            (try simp only [Act.put, List.setIfInBounds_toArray, List.set_cons_zero, List.set_cons_succ])
            refine wpAnyH_take (i := 12) (oi := ({ dst := some 29, op := Op.indexAddr 35 (Operand.tmp 17) (Operand.tmp 18), type := 0, pos := "solve.go:19", after := #[{ on := 0, ground := Ground.data }, { on := 1, ground := Ground.data }, { on := 0, ground := Ground.phase }, { on := 1, ground := Ground.phase }, { on := 2, ground := Ground.phase }, { on := 3, ground := Ground.phase }, { on := 4, ground := Ground.phase }, { on := 5, ground := Ground.phase }, { on := 6, ground := Ground.phase }, { on := 7, ground := Ground.phase }, { on := 8, ground := Ground.phase }, { on := 9, ground := Ground.phase }, { on := 10, ground := Ground.phase }, { on := 11, ground := Ground.phase }], guard := none } : Oper)) (v := ?_) rfl (by kernel_rfl) (by kernel_rfl) (by kernel_rfl) (fun _ _ _ h => h) (Or.inl ⟨by rfl, ?_⟩) (by assumption) ?_
            rotate_left
            · (intro w9 hSw; (try dsimp only at hSw); go_simp; all_goals with_reducible rfl)
            (try simp only [Act.put, List.setIfInBounds_toArray, List.set_cons_zero, List.set_cons_succ])
            refine wpAnyH_ready (rs := [13]) (by kernel_rfl) (by simp) ?_
            refine AllReadyH.cons (o := ({ dst := none, op := Op.store 22 (Operand.tmp 29) (Operand.tmp 28), type := 0, pos := "solve.go:19", after := #[{ on := 12, ground := Ground.data }, { on := 11, ground := Ground.data }, { on := 11, ground := Ground.chain }, { on := 0, ground := Ground.phase }, { on := 1, ground := Ground.phase }, { on := 2, ground := Ground.phase }, { on := 3, ground := Ground.phase }, { on := 4, ground := Ground.phase }, { on := 5, ground := Ground.phase }, { on := 6, ground := Ground.phase }, { on := 7, ground := Ground.phase }, { on := 8, ground := Ground.phase }, { on := 9, ground := Ground.phase }, { on := 10, ground := Ground.phase }, { on := 11, ground := Ground.phase }], guard := none } : Oper)) rfl (fun K hK => ?_) AllReadyH.nil
            go_simp
            refine hK.out _ _ (by exact (World.cell?_setCell_other _ _ _ _ hgne).trans x_c6.c0) (fun hHeld => ?_)
            clear hK K
            (try simp only [Act.put, List.setIfInBounds_toArray, List.set_cons_zero, List.set_cons_succ])
            refine wpAnyH_done (by kernel_rfl) ?_ _
            subst hn6
            obtain ⟨st, b_c9⟩ := b_c.set (k := k) (A := A6) (n := n6) (c := c6) HCL.out
            have hb9 : Below w.heap.size w _ := ms1 st hgw (bthen hb hbt6)
            have x_c9 := x_c6.sto hgce st
            have h9 : Me _ w.heap.size (some ⟨d0, o0, none⟩) n6 c M J := (h.keep hbt6).sto hgw st
            have hco9 : CoL _ gc n6 KM (k + 1) M := CoL.next b_c9 st HCL.out HCN.out (fun j hj => by obtain ⟨A, c, h1, h2⟩ := HCJ.out j hj; exact ⟨A, c, h1, h2.keep hbt6⟩) hp6
            go_wp2_with fail
            exact ⟨⟨k + 1, by omega, by go_num, hco9, h9, x_c9, hb9⟩, by simp [intOf]; omega⟩
          · skip
            have hD : Hid (Rc wr (some ⟨d0, o0 + (k + 1), none⟩) (n - (k + 1)) (xs.drop (k + 1))) := Lib.hid (hxs.drop (by omega) (fun h => rfl))
            refine wp_region_held_drew (S := fun w' => w'.cell? ⟨ge, 0, none⟩ = some (.slice (some ⟨gc, 0, none⟩) n n)) (by kernel_rfl) x_c.c0 (fun hHeld => ?_)
            refine wpAnyH_take (i := 0) (oi := ({ dst := some 17, op := Op.load 35 (Operand.tmp 4), type := 35, pos := "solve.go:19", after := #[], guard := none } : Oper)) (v := ?_) rfl (by kernel_rfl) (by kernel_rfl) (by kernel_rfl) (fun _ _ _ h => h) (Or.inl ⟨by rfl, ?_⟩) (by assumption) ?_
            rotate_left
            · (intro w9 hSw; (try dsimp only at hSw); go_simp; all_goals with_reducible rfl)
            (try simp only [Act.put, List.setIfInBounds_toArray, List.set_cons_zero, List.set_cons_succ])
            refine wpAnyH_take (i := 1) (oi := ({ dst := some 18, op := Op.move (Operand.tmp 5), type := 3, pos := "solve.go:19", after := #[], guard := none } : Oper)) (v := ?_) rfl (by kernel_rfl) (by kernel_rfl) (by kernel_rfl) (fun _ _ _ h => h) (Or.inl ⟨by rfl, ?_⟩) (by assumption) ?_
            rotate_left
            · (intro w9 hSw; (try dsimp only at hSw); go_simp; all_goals with_reducible rfl)
            (try simp only [Act.put, List.setIfInBounds_toArray, List.set_cons_zero, List.set_cons_succ])
            refine wpAnyH_take (i := 2) (oi := ({ dst := some 19, op := Op.move (Operand.tmp 0), type := 35, pos := "solve.go:19", after := #[], guard := none } : Oper)) (v := ?_) rfl (by kernel_rfl) (by kernel_rfl) (by kernel_rfl) (fun _ _ _ h => h) (Or.inl ⟨by rfl, ?_⟩) (by assumption) ?_
            rotate_left
            · (intro w9 hSw; (try dsimp only at hSw); go_simp; all_goals with_reducible rfl)
            (try simp only [Act.put, List.setIfInBounds_toArray, List.set_cons_zero, List.set_cons_succ])
            refine wpAnyH_take (i := 3) (oi := ({ dst := some 20, op := Op.move (Operand.tmp 5), type := 3, pos := "solve.go:19", after := #[], guard := none } : Oper)) (v := ?_) rfl (by kernel_rfl) (by kernel_rfl) (by kernel_rfl) (fun _ _ _ h => h) (Or.inl ⟨by rfl, ?_⟩) (by assumption) ?_
            rotate_left
            · (intro w9 hSw; (try dsimp only at hSw); go_simp; all_goals with_reducible rfl)
            (try simp only [Act.put, List.setIfInBounds_toArray, List.set_cons_zero, List.set_cons_succ])
            refine wpAnyH_take (i := 4) (oi := ({ dst := some 21, op := Op.slice 35 (Operand.tmp 19) none (some (Operand.tmp 20)) none, type := 35, pos := "solve.go:19", after := #[{ on := 2, ground := Ground.data }, { on := 3, ground := Ground.data }], guard := none } : Oper)) (v := ?_) rfl (by kernel_rfl) (by kernel_rfl) (by kernel_rfl) (fun _ _ _ h => h) (Or.inl ⟨by rfl, ?_⟩) (by assumption) ?_
            rotate_left
            · (intro w9 hSw; (try dsimp only at hSw); go_simp; all_goals with_reducible rfl)
            (try simp only [Act.put, List.setIfInBounds_toArray, List.set_cons_zero, List.set_cons_succ])
            refine wpAnyH_take (i := 5) (oi := ({ dst := some 22, op := Op.move (Operand.tmp 0), type := 35, pos := "solve.go:19", after := #[], guard := none } : Oper)) (v := ?_) rfl (by kernel_rfl) (by kernel_rfl) (by kernel_rfl) (fun _ _ _ h => h) (Or.inl ⟨by rfl, ?_⟩) (by assumption) ?_
            rotate_left
            · (intro w9 hSw; (try dsimp only at hSw); go_simp; all_goals with_reducible rfl)
            (try simp only [Act.put, List.setIfInBounds_toArray, List.set_cons_zero, List.set_cons_succ])
            refine wpAnyH_take (i := 6) (oi := ({ dst := some 23, op := Op.move (Operand.tmp 5), type := 3, pos := "solve.go:19", after := #[], guard := none } : Oper)) (v := ?_) rfl (by kernel_rfl) (by kernel_rfl) (by kernel_rfl) (fun _ _ _ h => h) (Or.inl ⟨by rfl, ?_⟩) (by assumption) ?_
            rotate_left
            · (intro w9 hSw; (try dsimp only at hSw); go_simp; all_goals with_reducible rfl)
            (try simp only [Act.put, List.setIfInBounds_toArray, List.set_cons_zero, List.set_cons_succ])
            refine wpAnyH_take (i := 7) (oi := ({ dst := some 24, op := Op.binOp BinOp.add 3 (Operand.tmp 23) (Operand.const (Value.int IntKind.i64 1)) 3, type := 3, pos := "solve.go:19", after := #[{ on := 6, ground := Ground.data }], guard := none } : Oper)) (v := ?_) rfl (by kernel_rfl) (by kernel_rfl) (by kernel_rfl) (fun _ _ _ h => h) (Or.inl ⟨by rfl, ?_⟩) (by assumption) ?_
            rotate_left
            · (intro w9 hSw; (try dsimp only at hSw); go_simp; all_goals with_reducible rfl)
            (try simp only [Act.put, List.setIfInBounds_toArray, List.set_cons_zero, List.set_cons_succ])
            refine wpAnyH_take (i := 8) (oi := ({ dst := some 25, op := Op.slice 35 (Operand.tmp 22) (some (Operand.tmp 24)) none none, type := 35, pos := "solve.go:19", after := #[{ on := 5, ground := Ground.data }, { on := 7, ground := Ground.data }], guard := none } : Oper)) (v := ?_) rfl (by kernel_rfl) (by kernel_rfl) (by kernel_rfl) (fun _ _ _ h => h) (Or.inl ⟨by rfl, ?_⟩) (by assumption) ?_
            rotate_left
            · (intro w9 hSw; (try dsimp only at hSw); go_simp; all_goals with_reducible rfl)
            (try simp only [Act.put, List.setIfInBounds_toArray, List.set_cons_zero, List.set_cons_succ])
            refine wpAnyH_ready (rs := [9]) (by kernel_rfl) (by simp) ?_
            refine AllReadyH.cons (o := ({ dst := some 26, op := Op.buildSlice 109 2 #[(0, Operand.tmp 21), (1, Operand.tmp 25)], type := 109, pos := "solve.go:19", after := #[{ on := 4, ground := Ground.data }, { on := 8, ground := Ground.data }], guard := none } : Oper)) rfl (fun K hK => ?_) AllReadyH.nil
            go_simp
            refine hK.out _ _ (by exact (x_c.alloc _).c0) (fun hHeld => ?_)
            clear hK K
            (try simp only [Act.put, List.setIfInBounds_toArray, List.set_cons_zero, List.set_cons_succ])
            refine wpAnyH_ready (rs := [10]) (by kernel_rfl) (by simp) ?_
            refine AllReadyH.cons (o := ({ dst := some 27, op := Op.call { callee := Callee.value (Operand.func 96), args := #[Operand.tmp 26], argTypes := #[109] }, type := 35, pos := "solve.go:19", after := #[{ on := 9, ground := Ground.data }], guard := none } : Oper)) rfl (fun K hK => ?_) AllReadyH.nil
            go_simp
            with_reducible refine (Sconcat_any (N := n - 1) ((Vc2.of (heap_alloc_new wr _)).1.drw) ((Vc2.of (heap_alloc_new wr _)).2.drw) ((hT.out.keep (below_alloc wr _)).drw) ((hD.out.keep (below_alloc wr _)).drw) (by omega) (by omega)).mono ?_
            rintro e v5 ⟨s, rfl, cv⟩
            have hbt : Below wr.heap.size wr v5 := bthen (below_drew (below_alloc wr _)) cv.2.1
            have x_c5 := x_c.keep hbt
            obtain ⟨g9, cap9, rfl, oy⟩ : ∃ g cap, s = .slice (some ⟨g, 0, none⟩) (n - 1) cap ∧ Oy v5 g (n - 1) cap (xs.take k ++ xs.drop (k + 1)) := by
              rcases cv.2.2 with ⟨h, _⟩ | ⟨_, g, cap, e, _, h2, h3⟩
              · omega
              · exact ⟨g, cap, e, h3⟩
            have hme := oy.me (J := J) (by omega) HWL.out (wo_cells h hxs.1 HXE.out hkn hbt)
            (try go_wp2_with fail)
            refine hK.out _ _ (by exact x_c5.c0) (fun hHeld => ?_)
            clear hK K
            (try simp only [Act.put, List.setIfInBounds_toArray, List.set_cons_zero, List.set_cons_succ])
            refine wpAnyH_ready (rs := [11]) (by kernel_rfl) (by simp) ?_
            refine AllReadyH.cons (o := ({ dst := some 28, op := Op.call { callee := Callee.value (Operand.func 95), args := #[Operand.tmp 27], argTypes := #[35] }, type := 22, pos := "solve.go:19", after := #[{ on := 10, ground := Ground.data }, { on := 10, ground := Ground.chain }], guard := none } : Oper)) rfl (fun K hK => ?_) AllReadyH.nil
            go_simp
            with_reducible refine (Mcross_any (m := n) hme (by omega) HWR.out (by omega) (by omega) hJ (by have := kb_mono (J := J) (Nat.sub_le n 1); omega)).mono ?_
            rintro e v6 ⟨A6, n6, c6, rfl, p6, hb1⟩
            have hbt6 := bthen hbt hb1
            have x_c6 := x_c5.keep hb1
            have b_c := hcs.keep hbt6
            have f_c := b_c.fr k; have q_k := (b_c.at_ HCK.out).al
            have hp6 : Po v6 (gc + 1) A6 n6 c6 (lsN n (crs (n - 1) (mx (wo M k)))) KM := (p6.more (by have := hbt.size; omega)).kto (by have := kb_mono (J := J) (Nat.sub_le n 1); omega)
            have hn6 : n6 = n := by rw [← hp6.pd.len, lsN_len]
            (try go_wp2_with fail)
            refine hK.out _ _ (by exact x_c6.c0) (fun hHeld => ?_)
            clear hK K
            (try simp only [Act.put, List.setIfInBounds_toArray, List.set_cons_zero, List.set_cons_succ])
            refine wpAnyH_take (i := 12) (oi := ({ dst := some 29, op := Op.indexAddr 35 (Operand.tmp 17) (Operand.tmp 18), type := 0, pos := "solve.go:19", after := #[{ on := 0, ground := Ground.data }, { on := 1, ground := Ground.data }, { on := 0, ground := Ground.phase }, { on := 1, ground := Ground.phase }, { on := 2, ground := Ground.phase }, { on := 3, ground := Ground.phase }, { on := 4, ground := Ground.phase }, { on := 5, ground := Ground.phase }, { on := 6, ground := Ground.phase }, { on := 7, ground := Ground.phase }, { on := 8, ground := Ground.phase }, { on := 9, ground := Ground.phase }, { on := 10, ground := Ground.phase }, { on := 11, ground := Ground.phase }], guard := none } : Oper)) (v := ?_) rfl (by kernel_rfl) (by kernel_rfl) (by kernel_rfl) (fun _ _ _ h => h) (Or.inl ⟨by rfl, ?_⟩) (by assumption) ?_
            rotate_left
            · (intro w9 hSw; (try dsimp only at hSw); go_simp; all_goals with_reducible rfl)
            (try simp only [Act.put, List.setIfInBounds_toArray, List.set_cons_zero, List.set_cons_succ])
            refine wpAnyH_ready (rs := [13]) (by kernel_rfl) (by simp) ?_
            refine AllReadyH.cons (o := ({ dst := none, op := Op.store 22 (Operand.tmp 29) (Operand.tmp 28), type := 0, pos := "solve.go:19", after := #[{ on := 12, ground := Ground.data }, { on := 11, ground := Ground.data }, { on := 11, ground := Ground.chain }, { on := 0, ground := Ground.phase }, { on := 1, ground := Ground.phase }, { on := 2, ground := Ground.phase }, { on := 3, ground := Ground.phase }, { on := 4, ground := Ground.phase }, { on := 5, ground := Ground.phase }, { on := 6, ground := Ground.phase }, { on := 7, ground := Ground.phase }, { on := 8, ground := Ground.phase }, { on := 9, ground := Ground.phase }, { on := 10, ground := Ground.phase }, { on := 11, ground := Ground.phase }], guard := none } : Oper)) rfl (fun K hK => ?_) AllReadyH.nil
            go_simp
            refine hK.out _ _ (by exact (World.cell?_setCell_other _ _ _ _ hgne).trans x_c6.c0) (fun hHeld => ?_)
            clear hK K
            (try simp only [Act.put, List.setIfInBounds_toArray, List.set_cons_zero, List.set_cons_succ])
            refine wpAnyH_done (by kernel_rfl) ?_ _
            subst hn6
            obtain ⟨st, b_c9⟩ := b_c.set (k := k) (A := A6) (n := n6) (c := c6) HCL.out
            have hb9 : Below w.heap.size w _ := ms1 st hgw (bthen hb hbt6)
            have x_c9 := x_c6.sto hgce st
            have h9 : Me _ w.heap.size (some ⟨d0, o0, none⟩) n6 c M J := (h.keep hbt6).sto hgw st
            have hco9 : CoL _ gc n6 KM (k + 1) M := CoL.next b_c9 st HCL.out HCN.out (fun j hj => by obtain ⟨A, c, h1, h2⟩ := HCJ.out j hj; exact ⟨A, c, h1, h2.keep hbt6⟩) hp6
            go_wp2_with fail
            exact ⟨⟨k + 1, by omega, by go_num, hco9, h9, x_c9, hb9⟩, by simp [intOf]; omega⟩
end Go.Proofs.YtbpamkpclofnbaaGreat
