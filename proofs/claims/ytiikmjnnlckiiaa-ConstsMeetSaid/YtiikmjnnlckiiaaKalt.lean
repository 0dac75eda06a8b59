/-
  rows: alternatingSum.
-/
import Derived.Test.YtiikmjnnlckiiaaKsum
namespace Go.Proofs.Ytiikmjnnlckiiaa
open Go.RowKit
set_option linter.unusedVariables false

theorem alt_even (e o : Nat → Int) (j : Nat) : altI e o (2 * j + 1) = altI e o (2 * j) + e (2 * j) := by
  show altI e o (2 * j) + _ = _
  rw [if_pos (by omega)]
theorem alt_odd2 (e o : Nat → Int) (j : Nat) : altI e o (2 * j + 1 + 1) = altI e o (2 * j + 1) - o (2 * j + 1) := by
  show altI e o (2 * j + 1) + _ = _
  rw [if_neg (by omega)]; omega
set_option maxRecDepth 100000 in
set_option maxHeartbeats 32000000 in
theorem Kalt_any {P : Nat → Prop} {B fid N : Nat} {caps : Array Value} {I : World → Nat → Prop} {f g : Nat → Int} {w : World} (G : Gen P B fid caps I f g N) (hg : Gs B I w 0) (n : Nat) (hN : 2 * n ≤ N) (hn : n ≤ 500) (hf : ∀ k, k ≤ 2 * n → Si (altI f g k) 20) (hh : ∀ k, k ≤ 2 * n → Si (altI g f k) 20) :
    Calls Try.prog 55 #[.func (.func fid) #[] caps, .int .i64 (n : Nat)] w (OuF P w (altI f g (2 * n)) (altI g f (2 * n + 1)) 25) := by
  have hB := hg.2.1
  have HE := G.ent
  go_enter Try.func55, Try.ntmps55
  go_upto_region 1 with fail
  have x_r : Kx (w.alloc (.cells #[.bool false, .slice none 0 0, .bool false, .slice none 0 0] 81)) (w.heap.size) false none 0 0 false none 0 0 := by have := Kx.new w false none 0 0 false none 0 0; simpa using this
  have hb : Below w.heap.size w (w.alloc (.cells #[.bool false, .slice none 0 0, .bool false, .slice none 0 0] 81)) := (Below.alloc (Below.refl w.heap.size w) (by simp) (.cells #[.bool false, .slice none 0 0, .bool false, .slice none 0 0] 81))
  generalize w.alloc (.cells #[.bool false, .slice none 0 0, .bool false, .slice none 0 0] 81) = v1 at *
  replace hg := hg.keep hb
  replace hb := Fr.of (P := P) hb
  have q_r := x_r.al
  go_upto_region 2 with fail
  have hb1 := below_alloc v1 (.cells #[.bool false, .slice none 0 0, .bool false, .slice none 0 0] 81)
  have l_r_t := x_r.lt
  have x_t := Kx.new v1 false none 0 0 false none 0 0
  have e_t : w.heap.size ≤ v1.heap.size := hb.size
  clear q_r
  obtain ⟨x_r, hg⟩ := mv2 hb1 x_r hg
  replace hb := hb.thenB hb1
  clear hb1
  generalize v1.alloc (.cells #[.bool false, .slice none 0 0, .bool false, .slice none 0 0] 81) = v2 at *
  have q_r := x_r.al
  have q_t := x_t.al
  have HF := Lib.hid hf; have HH := Lib.hid hh; clear hf hh
  have w1 : IntKind.i64.wrap (2 * (n : Int)) = 2 * n := wrapK (by omega) (by omega)
  go_wp2_with fail
  have hrel0 : SmR P B I w (v1.heap.size) (altI f g 0) (altI g f 0) 0 v2 := ⟨hb, x_r, ⟨_, _, _, _, _, _, x_t, Zn.nul _ _, Zn.nul _ _⟩, hg⟩
  clear q_r q_t
  obtain ⟨gt, hgt⟩ : ∃ g, v1.heap.size = g := ⟨_, rfl⟩
  have hgs : w.heap.size < gt := by have := x_r.lt; omega
  rw [hgt] at hrel0
  simp only [hgt]
  clear hb x_r x_t hg hgt
  go_loopw [6, 7, 11] (fun pv mv kv wr => ∃ k : Nat, k ≤ 2 * n ∧ kv = .int .i64 (k : Int) ∧ ((k % 2 = 0 ∧ pv = .func (.func 71) #[] #[] ∧ mv = .func (.func 76) #[] #[]) ∨ (k % 2 = 1 ∧ pv = .func (.func 76) #[] #[] ∧ mv = .func (.func 71) #[] #[])) ∧ SmR P B I w gt (altI f g k) (altI g f k) k wr) (fun _ _ kv _ => 2 * n + 2 - (intOf kv).toNat)
  case atStart => exact ⟨0, by omega, rfl, Or.inl ⟨rfl, rfl, rfl⟩, hrel0⟩
  case round =>
    clear hrel0
    obtain ⟨k, hk, rfl, hpm, hb, x_r, ⟨At, nt, ct, As, ns, cs, x_t, z_t, z_s⟩, hg⟩ := hrel
    obtain ⟨S, hS⟩ : ∃ e, altI f g k = e := ⟨_, rfl⟩
    obtain ⟨T, hT⟩ : ∃ e, altI g f k = e := ⟨_, rfl⟩
    obtain ⟨U, hU⟩ : ∃ e, f k = e := ⟨_, rfl⟩
    obtain ⟨R, hR⟩ : ∃ e, g k = e := ⟨_, rfl⟩
    rw [hS] at x_t z_t; rw [hT] at x_t z_s
    rcases (show k = 2 * n ∨ k < 2 * n by omega) with hk2 | hk2
    · obtain ⟨H, hH⟩ : ∃ H, T + R = H := ⟨_, rfl⟩
      have HH2 : Hid (altI g f (2 * n + 1) = H) := Lib.hid (by rw [alt_even, ← hk2, hT, hR]; exact hH)
      have HS2 : Hid (altI f g (2 * n) = S) := Lib.hid (by rw [← hk2]; exact hS)
      have HHH := Lib.hid hH; have HR := Lib.hid hR
      clear hS hT hU hR hH
      rcases hpm with ⟨_, rfl, rfl⟩ | ⟨ho, _, _⟩
      rotate_left
      · omega
      have hkt : ¬ ((k : Int) < 2 * n) := by omega
      have HK2 := Lib.hid hk2; clear hk2
      have q_r := x_r.al
      have q_t := x_t.al
      go_upto_region 8 with fail
      have hv := Fr.refl (P := P) wr
      go_cut [26] (fun _ wx => StH P wr gt (ngB S) At nt ct H wx)
      case first =>
        go_region_law (first | (go_simp; go_at_call 18; (with_reducible refine (ZAdd_any z_s.zr z6 25 (by omega) (by omega) (by omega)).mono ?_); rintro e v32 ⟨A9, n9, c9, rfl, z9, hb1⟩; replace hv := hv.thenB hb1; obtain ⟨x_r, x_t, z_t, z_s, z5, z6⟩ := mv6 hb1 x_r x_t z_t z_s z5 z6; replace hb := hb.thenB hb1; clear hb1; replace q_r := x_r.al; replace q_t := x_t.al; rw [HHH.out] at z9 ⊢) | (go_simp; (with_reducible refine (G.step _ k (by omega) hg.drw).mono ?_); rintro e v31 ⟨bA, AA, nA, cA, bC, AC, nC, cC, rfl, z5, z6, hg2, hb1⟩; replace hb1 := frdrew hb1; replace hv := hv.trans hb1; replace x_r := x_r.via hb1 (fun hq => by have := G.lt _ hq; omega); replace x_t := x_t.via hb1 (fun hq => by have := G.lt _ hq; omega); replace z_t := z_t.via hb1; replace z_s := z_s.via hb1; replace hb := hb.trans hb1; clear hb1; replace q_r := x_r.al; replace q_t := x_t.al; rw [HR.out] at z6; have hfl := field1 bA AA nA cA bC AC nC cC v31))
        all_goals go_wp2_with fail
        all_goals go_meet
        all_goals exact StH.put hv x_t z9
      case rest =>
        obtain ⟨AH, nH, cH, x_N, z_H, hgr⟩ := hcut
        clear hv x_t
        replace x_r := x_r.via hgr (fun hq => hq.elim (fun hq => by have := G.lt _ hq; omega) (by omega))
        replace z_t := z_t.via hgr
        replace z_s := z_s.via hgr
        replace hb := Fr.own hb hgr (fun b e => e.elim Or.inl (fun e => Or.inr (by omega)))
        clear q_t
        clear q_r
        generalize wc = v33 at *
        have x_t := x_N; clear x_N hgr
        have q_r := x_r.al
        have q_t := x_t.al
        go_wp2_with fail
        replace x_t := x_t.asideK (b' := (ngB S)) (A' := At) (n' := nt) (c' := ct) (p' := (ngB H)) (B' := AH) (m' := nH) (d' := cH) (g := w.heap.size) (by omega)
        replace z_t := z_t.putK (b' := (ngB S)) (A' := At) (n' := nt) (c' := ct) (p' := (ngB H)) (B' := AH) (m' := nH) (d' := cH) x_r
        replace z_s := z_s.putK (b' := (ngB S)) (A' := At) (n' := nt) (c' := ct) (p' := (ngB H)) (B' := AH) (m' := nH) (d' := cH) x_r
        replace z_H := z_H.putK (b' := (ngB S)) (A' := At) (n' := nt) (c' := ct) (p' := (ngB H)) (B' := AH) (m' := nH) (d' := cH) x_r
        replace hb := hb.putK (b' := (ngB S)) (A' := At) (n' := nt) (c' := ct) (p' := (ngB H)) (B' := AH) (m' := nH) (d' := cH) (Or.inr (by omega)) x_r
        replace x_r := x_r.put (ngB S) At nt ct (ngB H) AH nH cH
        clear q_r q_t
        generalize (((v33.setCell ⟨w.heap.size, 0, none⟩ (.bool (ngB S))).setCell ⟨w.heap.size, 1, none⟩ (.slice At nt ct)).setCell ⟨w.heap.size, 2, none⟩ (.bool (ngB H))).setCell ⟨w.heap.size, 3, none⟩ (.slice AH nH cH) = v34 at *
        have q_r := x_r.al
        have q_t := x_t.al
        go_wp2
        refine bodyPost_ret (v := .agg #[.bool (ngB S), .slice At nt ct, .bool (ngB H), .slice AH nH cH]) (by simp [results, Try.results55, go_sem, q_r]) rfl ?_
        exact ⟨_, _, _, _, _, _, by rw [HS2.out, HH2.out], by rw [HS2.out]; exact z_t.wide (by omega), by rw [HH2.out]; exact z_H, hb⟩
    · rcases hpm with ⟨hpar, rfl, rfl⟩ | ⟨hpar, rfl, rfl⟩
      · obtain ⟨j, hj⟩ : ∃ j, k = 2 * j := ⟨k / 2, by omega⟩
        obtain ⟨S1, hS1⟩ : ∃ e, altI f g (k + 1) = e := ⟨_, rfl⟩
        have HS1 : Hid (S + U = S1) := Lib.hid (by rw [← hS1, ← hS, ← hU, hj]; exact (alt_even f g j).symm)
        obtain ⟨T1, hT1⟩ : ∃ e, altI g f (k + 1) = e := ⟨_, rfl⟩
        have HT1 : Hid (T + R = T1) := Lib.hid (by rw [← hT1, ← hT, ← hR, hj]; exact (alt_even g f j).symm)
        have B1 : Hid (Si S1 20) := Lib.hid (by rw [← hS1]; exact HF.out _ (by omega)); have B2 : Hid (Si T1 20) := Lib.hid (by rw [← hT1]; exact HH.out _ (by omega))
        have ES := Lib.hid hS1; have ET := Lib.hid hT1; have HU := Lib.hid hU; have HR := Lib.hid hR
        have HJ := Lib.hid hj
        clear hS hT hU hR hS1 hT1 hj
        have hkt : (k : Int) < 2 * n := by omega
        have q_r := x_r.al
        have q_t := x_t.al
        go_upto_region 5 with fail
        go_region_law (first | (go_simp; go_at_call 71; (with_reducible refine (Kplus_any z_t.zr z_s.zr z5 z6 (by omega)).mono ?_); rintro e v32 ⟨A8, n8, c8, A9, n9, c9, rfl, z8, z9, hb1⟩; obtain ⟨x_r, x_t, z_t, z_s, z5, z6, hg2⟩ := mv7 hb1 x_r x_t z_t z_s z5 z6 hg2; replace hb := hb.thenB hb1; clear hb1; replace q_r := x_r.al; replace q_t := x_t.al; rw [HS1.out] at z8 ⊢; rw [HT1.out] at z9 ⊢; replace z8 := z8.slim B1.out; replace z9 := z9.slim B2.out) | (go_simp; (with_reducible refine (G.step _ k (by omega) hg.drw).mono ?_); rintro e v31 ⟨bA, AA, nA, cA, bC, AC, nC, cC, rfl, z5, z6, hg2, hb1⟩; replace hb1 := frdrew hb1; replace x_r := x_r.via hb1 (fun hq => by have := G.lt _ hq; omega); replace x_t := x_t.via hb1 (fun hq => by have := G.lt _ hq; omega); replace z_t := z_t.via hb1; replace z_s := z_s.via hb1; replace hb := hb.trans hb1; clear hb1; replace q_r := x_r.al; replace q_t := x_t.al; rw [HU.out] at z5; rw [HR.out] at z6))
        all_goals
          go_wp2_with fail
          replace x_r := x_r.asideK (b' := (ngB S1)) (A' := A8) (n' := n8) (c' := c8) (p' := (ngB T1)) (B' := A9) (m' := n9) (d' := c9) (g := gt) (by omega)
          replace z_t := z_t.putK (b' := (ngB S1)) (A' := A8) (n' := n8) (c' := c8) (p' := (ngB T1)) (B' := A9) (m' := n9) (d' := c9) x_t
          replace z_s := z_s.putK (b' := (ngB S1)) (A' := A8) (n' := n8) (c' := c8) (p' := (ngB T1)) (B' := A9) (m' := n9) (d' := c9) x_t
          replace z5 := z5.putK (b' := (ngB S1)) (A' := A8) (n' := n8) (c' := c8) (p' := (ngB T1)) (B' := A9) (m' := n9) (d' := c9) x_t
          replace z6 := z6.putK (b' := (ngB S1)) (A' := A8) (n' := n8) (c' := c8) (p' := (ngB T1)) (B' := A9) (m' := n9) (d' := c9) x_t
          replace hg2 := hg2.putK (b' := (ngB S1)) (A' := A8) (n' := n8) (c' := c8) (p' := (ngB T1)) (B' := A9) (m' := n9) (d' := c9) (by omega) x_t
          replace z8 := z8.putK (b' := (ngB S1)) (A' := A8) (n' := n8) (c' := c8) (p' := (ngB T1)) (B' := A9) (m' := n9) (d' := c9) x_t
          replace z9 := z9.putK (b' := (ngB S1)) (A' := A8) (n' := n8) (c' := c8) (p' := (ngB T1)) (B' := A9) (m' := n9) (d' := c9) x_t
          replace hb := hb.putK (b' := (ngB S1)) (A' := A8) (n' := n8) (c' := c8) (p' := (ngB T1)) (B' := A9) (m' := n9) (d' := c9) (Or.inr (by omega)) x_t
          replace x_t := x_t.put (ngB S1) A8 n8 c8 (ngB T1) A9 n9 c9
          clear q_r q_t
          generalize (((v32.setCell ⟨gt, 0, none⟩ (.bool (ngB S1))).setCell ⟨gt, 1, none⟩ (.slice A8 n8 c8)).setCell ⟨gt, 2, none⟩ (.bool (ngB T1))).setCell ⟨gt, 3, none⟩ (.slice A9 n9 c9) = v33 at *
          have q_r := x_r.al
          have q_t := x_t.al
          go_roundw
          case rel => exact ⟨k + 1, by omega, by go_num, Or.inr ⟨by omega, rfl, rfl⟩, hb, x_r, ⟨_, _, _, _, _, _, by rw [ES.out, ET.out]; exact x_t, by rw [ES.out]; exact z8, by rw [ET.out]; exact z9⟩, hg2⟩
          case measure => simp [intOf]; omega
      · obtain ⟨j, hj⟩ : ∃ j, k = 2 * j + 1 := ⟨k / 2, by omega⟩
        obtain ⟨S1, hS1⟩ : ∃ e, altI f g (k + 1) = e := ⟨_, rfl⟩
        have HS1 : Hid (S - R = S1) := Lib.hid (by rw [← hS1, ← hS, ← hR, hj]; exact (alt_odd2 f g j).symm)
        obtain ⟨T1, hT1⟩ : ∃ e, altI g f (k + 1) = e := ⟨_, rfl⟩
        have HT1 : Hid (T - U = T1) := Lib.hid (by rw [← hT1, ← hT, ← hU, hj]; exact (alt_odd2 g f j).symm)
        have B1 : Hid (Si S1 20) := Lib.hid (by rw [← hS1]; exact HF.out _ (by omega)); have B2 : Hid (Si T1 20) := Lib.hid (by rw [← hT1]; exact HH.out _ (by omega))
        have ES := Lib.hid hS1; have ET := Lib.hid hT1; have HU := Lib.hid hU; have HR := Lib.hid hR
        have HJ := Lib.hid hj
        clear hS hT hU hR hS1 hT1 hj
        have hkt : (k : Int) < 2 * n := by omega
        have q_r := x_r.al
        have q_t := x_t.al
        go_upto_region 5 with fail
        go_region_law (first | (go_simp; go_at_call 76; (with_reducible refine (Kminus_any z_t.zr z_s.zr z5 z6 (by omega)).mono ?_); rintro e v32 ⟨A8, n8, c8, A9, n9, c9, rfl, z8, z9, hb1⟩; obtain ⟨x_r, x_t, z_t, z_s, z5, z6, hg2⟩ := mv7 hb1 x_r x_t z_t z_s z5 z6 hg2; replace hb := hb.thenB hb1; clear hb1; replace q_r := x_r.al; replace q_t := x_t.al; rw [HS1.out] at z8 ⊢; rw [HT1.out] at z9 ⊢; replace z8 := z8.slim B1.out; replace z9 := z9.slim B2.out) | (go_simp; (with_reducible refine (G.step _ k (by omega) hg.drw).mono ?_); rintro e v31 ⟨bA, AA, nA, cA, bC, AC, nC, cC, rfl, z5, z6, hg2, hb1⟩; replace hb1 := frdrew hb1; replace x_r := x_r.via hb1 (fun hq => by have := G.lt _ hq; omega); replace x_t := x_t.via hb1 (fun hq => by have := G.lt _ hq; omega); replace z_t := z_t.via hb1; replace z_s := z_s.via hb1; replace hb := hb.trans hb1; clear hb1; replace q_r := x_r.al; replace q_t := x_t.al; rw [HU.out] at z5; rw [HR.out] at z6))
        all_goals
          go_wp2_with fail
          replace x_r := x_r.asideK (b' := (ngB S1)) (A' := A8) (n' := n8) (c' := c8) (p' := (ngB T1)) (B' := A9) (m' := n9) (d' := c9) (g := gt) (by omega)
          replace z_t := z_t.putK (b' := (ngB S1)) (A' := A8) (n' := n8) (c' := c8) (p' := (ngB T1)) (B' := A9) (m' := n9) (d' := c9) x_t
          replace z_s := z_s.putK (b' := (ngB S1)) (A' := A8) (n' := n8) (c' := c8) (p' := (ngB T1)) (B' := A9) (m' := n9) (d' := c9) x_t
          replace z5 := z5.putK (b' := (ngB S1)) (A' := A8) (n' := n8) (c' := c8) (p' := (ngB T1)) (B' := A9) (m' := n9) (d' := c9) x_t
          replace z6 := z6.putK (b' := (ngB S1)) (A' := A8) (n' := n8) (c' := c8) (p' := (ngB T1)) (B' := A9) (m' := n9) (d' := c9) x_t
          replace hg2 := hg2.putK (b' := (ngB S1)) (A' := A8) (n' := n8) (c' := c8) (p' := (ngB T1)) (B' := A9) (m' := n9) (d' := c9) (by omega) x_t
          replace z8 := z8.putK (b' := (ngB S1)) (A' := A8) (n' := n8) (c' := c8) (p' := (ngB T1)) (B' := A9) (m' := n9) (d' := c9) x_t
          replace z9 := z9.putK (b' := (ngB S1)) (A' := A8) (n' := n8) (c' := c8) (p' := (ngB T1)) (B' := A9) (m' := n9) (d' := c9) x_t
          replace hb := hb.putK (b' := (ngB S1)) (A' := A8) (n' := n8) (c' := c8) (p' := (ngB T1)) (B' := A9) (m' := n9) (d' := c9) (Or.inr (by omega)) x_t
          replace x_t := x_t.put (ngB S1) A8 n8 c8 (ngB T1) A9 n9 c9
          clear q_r q_t
          generalize (((v32.setCell ⟨gt, 0, none⟩ (.bool (ngB S1))).setCell ⟨gt, 1, none⟩ (.slice A8 n8 c8)).setCell ⟨gt, 2, none⟩ (.bool (ngB T1))).setCell ⟨gt, 3, none⟩ (.slice A9 n9 c9) = v33 at *
          have q_r := x_r.al
          have q_t := x_t.al
          go_roundw
          case rel => exact ⟨k + 1, by omega, by go_num, Or.inl ⟨by omega, rfl, rfl⟩, hb, x_r, ⟨_, _, _, _, _, _, by rw [ES.out, ET.out]; exact x_t, by rw [ES.out]; exact z8, by rw [ET.out]; exact z9⟩, hg2⟩
          case measure => simp [intOf]; omega

end Go.Proofs.Ytiikmjnnlckiiaa
