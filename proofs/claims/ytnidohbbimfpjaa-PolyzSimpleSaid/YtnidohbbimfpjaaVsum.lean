/-
  polyz: sum, Add, Sub.
-/
import Derived.Test.YtnidohbbimfpjaaVmul
namespace Go.Proofs.Ytnidohbbimfpjaa
open Go.RowKit
open MP.Se (nf co)
set_option linter.unusedVariables false
set_option maxRecDepth 100000

/-- The sum of polynomials. -/
def sT (ts : List (Option Addr × Nat × Nat × List Int)) : MP.Se := ts.foldl (fun s t => s + co t.2.2.2) (MP.Se.c 0)
/-- How many coefficients they have together. -/
def tT (ts : List (Option Addr × Nat × Nat × List Int)) : Nat := ts.foldl (fun s t => s + t.2.1) 0
/-- Block g holds these slices of integers, all below block B. -/
def Tm (w : World) (g B : Nat) (ts : List (Option Addr × Nat × Nat × List Int)) (J : Nat) : Prop := g < w.heap.size ∧ ∀ k (hk : k < ts.length), w.cell? ⟨g, k, none⟩ = some (.slice ts[k].1 ts[k].2.1 ts[k].2.2.1) ∧ Pe w B ts[k].1 ts[k].2.1 ts[k].2.2.1 ts[k].2.2.2 J
section
variable {W v w' : World} {g h B J : Nat} {ts : List (Option Addr × Nat × Nat × List Int)}
theorem Tm.keep (t : Tm W g B ts J) (hb : Below W.heap.size W v) : Tm v g B ts J := ⟨Nat.lt_of_lt_of_le t.1 hb.size, fun k hk => ⟨(hb.cell (p := ⟨g, k, none⟩) t.1).trans (t.2 k hk).1, (t.2 k hk).2.keep hb⟩⟩
instance : Mv (Tm W g B ts J) W v (Tm v g B ts J) := ⟨fun x y => x.keep y⟩
instance : Ms (Tm W g B ts J) W v h (g ≠ h ∧ B ≤ h) (Tm v g B ts J) := ⟨fun s hg t => ⟨by rw [s.size]; exact t.1, fun k hk => ⟨(s.cell (p := ⟨g, k, none⟩) hg.1).trans (t.2 k hk).1, Ms.ms s hg.2 (t.2 k hk).2⟩⟩⟩
theorem sT_step {k : Nat} (hk : k < ts.length) : sT (ts.take (k + 1)) = sT (ts.take k) + co ts[k].2.2.2 := by
  rw [sT, sT, List.take_add_one, List.getElem?_eq_getElem hk, List.foldl_append]; rfl
theorem tT_step {k : Nat} (hk : k < ts.length) : tT (ts.take (k + 1)) = tT (ts.take k) + ts[k].2.1 := by
  rw [tT, tT, List.take_add_one, List.getElem?_eq_getElem hk, List.foldl_append]; rfl
theorem foldl_add (ts : List (Option Addr × Nat × Nat × List Int)) (a : Nat) : ts.foldl (fun s t => s + t.2.1) a = a + ts.foldl (fun s t => s + t.2.1) 0 := by
  induction ts generalizing a with
  | nil => simp
  | cons t ts ih => rw [List.foldl_cons, ih, List.foldl_cons, ih (0 + t.2.1)]; omega
theorem tT_le (k : Nat) : tT (ts.take k) ≤ tT ts := by
  conv => rhs; rw [← List.take_append_drop k ts, tT, List.foldl_append, foldl_add]
  exact Nat.le_add_right _ _
end
/-- What the loops of sum keep. -/
def SuR (w : World) (ts : List (Option Addr × Nat × Nat × List Int)) (l5 : List Int) (g B J S go k i : Nat) (wr : World) : Prop :=
  ∃ L : List Int, Pw wr go L (J + tT (ts.take k) + i) ∧ L.length = S ∧ co L = sT (ts.take k) + co (l5.take i) ∧ Tm wr g B ts J ∧ Below w.heap.size w wr
theorem SuR.next {w : World} {ts : List (Option Addr × Nat × Nat × List Int)} {l5 : List Int} {g B J S go k n : Nat} {wr : World} (hk : k < ts.length) (hn : ts[k].2.1 = n) (hl : ts[k].2.2.2 = l5) (hln : l5.length = n) (h : SuR w ts l5 g B J S go k n wr) : SuR w ts [] g B J S go (k + 1) 0 wr := by
  obtain ⟨L, p, h1, h2, h3⟩ := h
  refine ⟨L, ?_, h1, ?_, h3⟩
  · rwa [tT_step hk, hn, Nat.add_zero, ← Nat.add_assoc]
  · rw [h2, sT_step hk, hl, MP.Se.co_take_all (by omega), List.take_nil, MP.Se.co_nil, MP.Se.add_zero]
theorem SuR.to {w : World} {ts : List (Option Addr × Nat × Nat × List Int)} {l5 l6 : List Int} {g B J S go k : Nat} {wr : World} (h : SuR w ts l5 g B J S go k 0 wr) : SuR w ts l6 g B J S go k 0 wr := h
theorem su_step {L l5 : List Int} {i : Nat} {s : MP.Se} {X V : Int} (hi : i < l5.length) (hL : i < L.length) (h : co L = s + co (l5.take i)) (hX : l5[i] = X) (hV : L[i] = V) : co (L.set i (V + X)) = s + co (l5.take (i + 1)) := by
  rw [MP.Se.co_take_succ hi, ← MP.Se.add_assoc, ← h, ← hV, ← hX]
  exact MP.Se.co_set hL _
set_option maxHeartbeats 4000000 in
theorem PSum_any {g B J K N c : Nat} {ts : List (Option Addr × Nat × Nat × List Int)} {w : World} (t : Tm w g B ts J) (hN : ts.length = N) (hNb : N ≤ 1000) (hB : B ≤ w.heap.size) (hc : N ≤ c) (hK : J + tT ts ≤ K) (hK2 : K ≤ 900000) :
    Calls Try.prog 90 #[.slice (some ⟨g, 0, none⟩) N c] w (OutS w (sT ts) K) := by
  go_enter Try.func90, Try.ntmps90
  go_wp2_with fail
  have HN := Lib.hid hN; clear hN
  have HK := Lib.hid hK; clear hK
  have hJ : J ≤ 900000 := by have := HK.out; omega
  go_loopw [3, 12] (fun sv kv wr => ∃ k s : Nat, k ≤ N ∧ kv = .int .i64 (k : Int) ∧ sv = .int .i64 (s : Int) ∧ s ≤ 100000 ∧ (∀ i (hi : i < ts.length), i < k → ts[i].2.1 ≤ s) ∧ Tm wr g B ts J ∧ Below w.heap.size w wr) (fun _ kv _ => N - (intOf kv).toNat)
  case atStart => exact ⟨0, 0, by omega, rfl, rfl, by omega, fun _ _ h => absurd h (by omega), t, Below.refl _ _⟩
  case round =>
    clear t
    obtain ⟨k, S, hk, rfl, rfl, hs, hsk, t, hb⟩ := hrel
    rcases (show k = N ∨ k < N by omega) with hkN | hkN
    · subst hkN
      have HSK := Lib.hid (fun i (hi : i < ts.length) => hsk i hi (by have := HN.out; omega))
      clear hsk
      go_wp2_with (at_make; refine wp_makeP rfl _ _ rfl S J _ _ rfl rfl rfl rfl hs ?_; intro v3 p_g hb1)
      obtain ⟨go, hgo⟩ : ∃ g, wr.heap.size = g := ⟨_, rfl⟩
      rw [hgo] at p_g ⊢
      have hgw : w.heap.size ≤ go := by rw [← hgo]; exact hb.size
      have htl := t.1
      rw [hgo] at htl
      obtain ⟨t, hb⟩ := mv2 hb1 t hb
      have hr0 : SuR w ts [] g B J S go 0 0 v3 := ⟨_, by simpa [tT] using p_g, by simp, by rw [List.take_nil, MP.Se.co_nil, MP.Se.add_zero]; exact MP.Se.co_rep _, t, hb⟩
      clear p_g t hb hb1 hgo
      go_wp2_with fail
      go_loopw [25] (fun kv wr => ∃ i : Nat, i ≤ k ∧ kv = .int .i64 (i : Int) ∧ SuR w ts [] g B J S go i 0 wr) (fun kv _ => k - (intOf kv).toNat)
      case atStart => exact ⟨0, by omega, rfl, hr0⟩
      case round =>
        clear hr0
        obtain ⟨i, hi, rfl, hr0⟩ := hrel
        rcases (show i = k ∨ i < k by omega) with him | him
        · subst him
          obtain ⟨L, p_g, hL, hLc, _, hb⟩ := hr0
          rw [List.take_of_length_le (by have := HN.out; omega), List.take_nil, MP.Se.co_nil, MP.Se.add_zero] at hLc
          rw [List.take_of_length_le (by have := HN.out; omega), Nat.add_zero] at p_g
          have hpo := (p_g.po (B := w.heap.size) hgw).kto HK.out
          rw [hL] at hpo
          have HLC := Lib.hid hLc
          clear hL hLc p_g
          go_wp2_with fail
          with_reducible refine (Ptrim_any hpo.pd (by omega)).mono ?_
          rintro e v5 ⟨A3, m3, c3, rfl, hm3, ht3, hb1⟩
          have hpo3 := (hpo.keep hb1).trim hm3 ht3
          replace hb := bthen hb hb1
          clear hm3 ht3 hpo hb1
          go_wp2
          go_ret
          exact ⟨nf L, MP.Se.nm_nf L, by rw [MP.Se.co_nf, HLC.out], A3, m3, c3, rfl, hpo3, hb⟩
        · have hkt : i < ts.length := by have := HN.out; omega
          obtain ⟨L, p_g, hL, hLc, t, hb⟩ := hr0
          obtain ⟨q0, hp⟩ := t.2 i hkt
          obtain ⟨A5, hA⟩ : ∃ A, ts[i].1 = A := ⟨_, rfl⟩
          obtain ⟨n5, hn⟩ : ∃ n, ts[i].2.1 = n := ⟨_, rfl⟩
          obtain ⟨c5, hc5⟩ : ∃ c, ts[i].2.2.1 = c := ⟨_, rfl⟩
          obtain ⟨l5, hl5⟩ : ∃ l, ts[i].2.2.2 = l := ⟨_, rfl⟩
          rw [hA, hn, hc5] at q0
          rw [hA, hn, hc5, hl5] at hp
          have hnS : n5 ≤ S := by have := HSK.out i hkt; omega
          have hln := hp.len
          have hnb := hp.big
          have HTL : Hid (J + tT (ts.take i) + n5 ≤ 900000) := Lib.hid (by have h1 := tT_step hkt; have h2 := tT_le (ts := ts) (i + 1); have := HK.out; rw [hn] at h1; omega)
          have HNX := Lib.hid (fun wr => SuR.next (w := w) (g := g) (B := B) (J := J) (S := S) (go := go) (wr := wr) hkt hn hl5 hln)
          have hTT : Hid (Tm wr g B ts J → Pe wr B A5 n5 c5 l5 J) := Lib.hid (fun t => by have := (t.2 i hkt).2; rwa [hA, hn, hc5, hl5] at this)
          have HTP : Hid (∀ wr, Tm wr g B ts J → Pe wr B A5 n5 c5 l5 J) := Lib.hid (fun wr t => by have := (t.2 i hkt).2; rwa [hA, hn, hc5, hl5] at this)
          replace hr0 : SuR w ts l5 g B J S go i 0 wr := ⟨L, p_g, hL, by rw [List.take_zero]; rwa [List.take_nil] at hLc, t, hb⟩
          have HLN := Lib.hid hln
          clear p_g hL hLc t hb hp hln hA hn hc5 hl5 hTT
          go_wp2_with fail
          go_loopw [31] (fun kv wr => ∃ j : Nat, j ≤ n5 ∧ kv = .int .i64 (j : Int) ∧ SuR w ts l5 g B J S go i j wr) (fun kv _ => n5 - (intOf kv).toNat)
          case atStart => exact ⟨0, by omega, rfl, hr0⟩
          case round =>
            clear hr0 q0
            obtain ⟨j, hj, rfl, hr0⟩ := hrel
            rcases (show j = n5 ∨ j < n5 by omega) with hkm | hkm
            · subst hkm
              have hr1 := HNX.out _ hr0
              clear hr0
              go_wp2
              exact ⟨⟨i + 1, by omega, by go_num, hr1⟩, by simp [intOf]; omega⟩
            · have hjl : j < l5.length := by have := HLN.out; omega
              obtain ⟨L, p_g, hL, hLc, t, hb⟩ := hr0
              have hiL : j < L.length := by omega
              have h3 := HTP.out _ t
              obtain ⟨d, o, b5, A6, n6, c6, rfl, hd, x_e, z5⟩ := h3.ec hkm
              obtain ⟨A7, n7, c7, x_t, z7⟩ := p_g.ec hiL
              obtain ⟨X, hX⟩ : ∃ X, l5[j] = X := ⟨_, rfl⟩
              obtain ⟨V, hV⟩ : ∃ V, L[j] = V := ⟨_, rfl⟩
              have HST := Lib.hid (su_step hjl hiL hLc hX hV)
              rw [hX] at z5; rw [hV] at x_t z7
              have HLL := Lib.hid hL; have HLI := Lib.hid hiL; have hjS : j < S := by omega
              have hKb : J + tT (ts.take i) + j + 1 ≤ 900000 := by have := HTL.out; omega
              obtain ⟨K0, hK0⟩ : ∃ K0, J + tT (ts.take i) + j = K0 := ⟨_, rfl⟩
              have hJJ : J ≤ K0 := by omega
              rw [hK0] at p_g z7 hKb
              have HK0 := Lib.hid hK0
              clear hL hiL hLc hX hV hK0 h3
              have q_e := x_e.al
              have q_t := x_t.al
              have f_t := And.intro (p_g.fr (j * 2)) (p_g.fr (j * 2 + 1))
              go_upto_region 14 with fail
              go_region_law (first | (go_simp; go_at_call 39; (with_reducible refine (ZAdd_any z7.drw.zr z5.drw (K0 + 1) (by omega) (by omega) (by omega)).mono ?_); rintro e v1 ⟨A9, n9, c9, rfl, z9, hb1⟩; replace hb1 := undrew hb1; obtain ⟨x_e, x_t, t, p_g, z5, z7, hb⟩ := mv7 hb1 x_e x_t t p_g z5 z7 hb; clear hb1; replace q_e := x_e.al; replace q_t := x_t.al; replace f_t := And.intro (p_g.fr (j * 2)) (p_g.fr (j * 2 + 1))))
              all_goals
                clear x_t f_t q_t
                go_wp2
                refine ⟨⟨j + 1, by omega, by go_num, ?_⟩, by simp [intOf]; omega⟩
                replace p_g := p_g.kto (Nat.le_succ K0)
                clear q_e
                refine p_g.st (F := SuR w ts l5 g B J S go i (j + 1)) (k := j) HLI.out z9 fun v2 hs hx => ?_
                obtain ⟨x_e, t, z5, z7, z9, hb⟩ := ms6 hs ⟨by omega, by omega, trivial, trivial, trivial, by omega⟩ x_e t z5 z7 z9 hb
                replace p_g := hx; clear hx hs
                have q_e := x_e.al
                exact ⟨_, by rw [← Nat.add_assoc, HK0.out]; exact p_g, by rw [List.length_set]; exact HLL.out, HST.out, t, hb⟩
    · have hkt : k < ts.length := by have := HN.out; omega
      obtain ⟨q0, hp⟩ := t.2 k hkt
      have hbg := hp.big
      clear hp
      obtain ⟨A5, hA⟩ : ∃ A, ts[k].1 = A := ⟨_, rfl⟩
      obtain ⟨n5, hn⟩ : ∃ n, ts[k].2.1 = n := ⟨_, rfl⟩
      obtain ⟨c5, hc5⟩ : ∃ c, ts[k].2.2.1 = c := ⟨_, rfl⟩
      rw [hA, hn, hc5] at q0
      rw [hn] at hbg
      have hsk2 : ∀ T, S ≤ T → n5 ≤ T → ∀ i (hi : i < ts.length), i < k + 1 → ts[i].2.1 ≤ T := fun T h1 h2 i hi hik => by
          rcases (show i < k ∨ i = k by omega) with e | e
          · exact Nat.le_trans (hsk i hi e) h1
          · subst e; omega
      have HSK := Lib.hid hsk2
      clear hsk2 hsk hA hn hc5
      rcases (show S < n5 ∨ n5 ≤ S by omega) with hlt | hge
      · have hmx : max (S : Int) n5 = n5 := by omega
        go_wp2
        all_goals first | (exfalso; omega) | exact ⟨⟨k + 1, n5, by omega, by go_num, rfl, hbg, HSK.out n5 (by omega) (by omega), t, hb⟩, by simp [intOf]; omega⟩
      · have hmx : max (S : Int) n5 = S := by omega
        go_wp2
        all_goals first | (exfalso; omega) | exact ⟨⟨k + 1, S, by omega, by go_num, rfl, hs, HSK.out S (by omega) (by omega), t, hb⟩, by simp [intOf]; omega⟩
end Go.Proofs.Ytnidohbbimfpjaa
