/-
 rows: oddPowers, its closure.
-/
import Derived.Test.YtjlbngjeekdfcaaGreatDoorKsum
namespace Go.Proofs.YtjlbngjeekdfcaaGreatDoor
set_option maxRecDepth 100000
set_option maxHeartbeats 32000000
set_option linter.unusedVariables false
open Go.RowKit
theorem alt_even (e o : Nat → Int) (j : Nat) : altI e o (2 * j + 1) = altI e o (2 * j) + e (2 * j) := by
 show altI e o (2 * j) + _ = _
 rw [if_pos (by omega)]
theorem alt_odd2 (e o : Nat → Int) (j : Nat) : altI e o (2 * j + 1 + 1) = altI e o (2 * j + 1) - o (2 * j + 1) := by
 show altI e o (2 * j + 1) + _ = _
 rw [if_neg (by omega)]; omega
theorem Kalt_any {P : Nat → Prop} {B fid N : Nat} {caps : Array Value} {I : World → Nat → Prop} {f g : Nat → Int} {w : World} (G : Gen P B fid caps I f g N) (hg : Gs B I w 0) (n : Nat) (hN : 2 * n ≤ N) (hn : n ≤ 500) (hf : ∀ k, k ≤ 2 * n → Si (altI f g k) 20) (hh : ∀ k, k ≤ 2 * n → Si (altI g f k) 20) :
  Calls Tryz.prog 175 #[.func (.func fid) #[] caps, .int .i64 (n : Nat)] w (OuF P w (altI f g (2 * n)) (altI g f (2 * n + 1)) 25) := by
 have hB := hg.2.1
 have HE := G.ent
 go_enter Tryz.func175, Tryz.ntmps175
 go_upto_region 1 with fail
 have x_r : Kx (w.alloc (.cells #[.bool false, .slice none 0 0, .bool false, .slice none 0 0] 161)) (w.heap.size) false none 0 0 false none 0 0 := by have := Kx.new w false none 0 0 false none 0 0; simpa using this
 have hb : Below w.heap.size w (w.alloc (.cells #[.bool false, .slice none 0 0, .bool false, .slice none 0 0] 161)) := (Below.alloc (Below.refl w.heap.size w) (by simp) (.cells #[.bool false, .slice none 0 0, .bool false, .slice none 0 0] 161))
 generalize w.alloc (.cells #[.bool false, .slice none 0 0, .bool false, .slice none 0 0] 161) = v1 at *
 replace hg := hg.keep hb
 replace hb := Fr.of (P := P) hb
 have q_r := x_r.al
 go_upto_region 2 with fail
 have hb1 := below_alloc v1 (.cells #[.bool false, .slice none 0 0, .bool false, .slice none 0 0] 161)
 have l_r_t := x_r.lt
 have x_t := Kx.new v1 false none 0 0 false none 0 0
 have e_t : w.heap.size ≤ v1.heap.size := hb.size
 clear q_r
 obtain ⟨x_r, hg⟩ := mv2 hb1 x_r hg
 replace hb := hb.thenB hb1
 clear hb1
 generalize v1.alloc (.cells #[.bool false, .slice none 0 0, .bool false, .slice none 0 0] 161) = v2 at *
 have q_r := x_r.al
 have q_t := x_t.al
 have HF := Lib.hid hf; have HH := Lib.hid hh; clear hf hh
 have w1 : IntKind.i64.wrap (2 * (n : Int)) = 2 * n := wrapK (by omega) (by omega)
 go_wp2_with fail
 have hrel0 : SmR P B I w (v1.heap.size) (altI f g 0) (altI g f 0) 0 v2 := ⟨hb, x_r, ⟨_, _, _, _, _, _, x_t, Zn.nul _ _, Zn.nul _ _⟩, hg⟩
 clear q_r q_t
 obtain ⟨gt, hgt⟩ : ∃ g, v1.heap.size = g := ⟨_, rfl⟩
 have hgs : w.heap.size < gt := by have := x_r.lt; omega
 rw [hgt] at hrel0
 simp only [hgt]
 clear hb x_r x_t hg hgt
 go_loopw [6, 7, 11] (fun pv mv kv wr => ∃ k : Nat, k ≤ 2 * n ∧ kv = .int .i64 (k : Int) ∧ ((k % 2 = 0 ∧ pv = .func (.func 148) #[] #[] ∧ mv = .func (.func 178) #[] #[]) ∨ (k % 2 = 1 ∧ pv = .func (.func 178) #[] #[] ∧ mv = .func (.func 148) #[] #[])) ∧ SmR P B I w gt (altI f g k) (altI g f k) k wr) (fun _ _ kv _ => 2 * n + 2 - (intOf kv).toNat)
 case atStart => exact ⟨0, by omega, rfl, Or.inl ⟨rfl, rfl, rfl⟩, hrel0⟩
 case round =>
  clear hrel0
  obtain ⟨k, hk, rfl, hpm, hb, x_r, ⟨At, nt, ct, As, ns, cs, x_t, z_t, z_s⟩, hg⟩ := hrel
  obtain ⟨S, hS⟩ : ∃ e, altI f g k = e := ⟨_, rfl⟩
  obtain ⟨T, hT⟩ : ∃ e, altI g f k = e := ⟨_, rfl⟩
  obtain ⟨U, hU⟩ : ∃ e, f k = e := ⟨_, rfl⟩
  obtain ⟨R, hR⟩ : ∃ e, g k = e := ⟨_, rfl⟩
  rw [hS] at x_t z_t; rw [hT] at x_t z_s
  rcases (show k = 2 * n ∨ k < 2 * n by omega) with hk2 | hk2
  ·obtain ⟨H, hH⟩ : ∃ H, T + R = H := ⟨_, rfl⟩
   have HH2 : Hid (altI g f (2 * n + 1) = H) := Lib.hid (by rw [alt_even, ← hk2, hT, hR]; exact hH)
   have HS2 : Hid (altI f g (2 * n) = S) := Lib.hid (by rw [← hk2]; exact hS)
   have HHH := Lib.hid hH; have HR := Lib.hid hR
   clear hS hT hU hR hH
   rcases hpm with ⟨_, rfl, rfl⟩ | ⟨ho, _, _⟩
   rotate_left
   ·omega
   have hkt : ¬ ((k : Int) < 2 * n) := by omega
   have HK2 := Lib.hid hk2; clear hk2
   have q_r := x_r.al
   have q_t := x_t.al
   go_upto_region 8 with fail
   have hv := Fr.refl (P := P) wr
   go_cut [26] (fun _ wx => StH P wr gt (ngB S) At nt ct H wx)
   case first =>
    go_region_law (first | (go_simp; go_at_call 21; (with_reducible refine (ZAdd_any z_s.zr z6 25 (by omega) (by omega) (by omega)).mono ?_); rintro e v32 ⟨A9, n9, c9, rfl, z9, hb1⟩; replace hv := hv.thenB hb1; obtain ⟨x_r, x_t, z_t, z_s, z5, z6⟩ := mv6 hb1 x_r x_t z_t z_s z5 z6; replace hb := hb.thenB hb1; clear hb1; replace q_r := x_r.al; replace q_t := x_t.al; rw [HHH.out] at z9 ⊢) | (go_simp; (with_reducible refine (G.step _ k (by omega) hg.drw).mono ?_); rintro e v31 ⟨bA, AA, nA, cA, bC, AC, nC, cC, rfl, z5, z6, hg2, hb1⟩; replace hb1 := frdrew hb1; replace hv := hv.trans hb1; replace x_r := x_r.via hb1 (fun hq => by have := G.lt _ hq; omega); replace x_t := x_t.via hb1 (fun hq => by have := G.lt _ hq; omega); replace z_t := z_t.via hb1; replace z_s := z_s.via hb1; replace hb := hb.trans hb1; clear hb1; replace q_r := x_r.al; replace q_t := x_t.al; rw [HR.out] at z6; have hfl := field1 bA AA nA cA bC AC nC cC v31))
    all_goals go_wp2_with fail
    all_goals go_meet
    all_goals exact StH.put hv x_t z9
   case rest =>
    obtain ⟨AH, nH, cH, x_N, z_H, hgr⟩ := hcut
    clear hv x_t
    replace x_r := x_r.via hgr (fun hq => hq.elim (fun hq => by have := G.lt _ hq; omega) (by omega))
    replace z_t := z_t.via hgr
    replace z_s := z_s.via hgr
    replace hb := Fr.own hb hgr (fun b e => e.elim Or.inl (fun e => Or.inr (by omega)))
    clear q_t
    clear q_r
    generalize wc = v33 at *
    have x_t := x_N; clear x_N hgr
    have q_r := x_r.al
    have q_t := x_t.al
    go_wp2_with fail
    replace x_t := x_t.asideK (b' := (ngB S)) (A' := At) (n' := nt) (c' := ct) (p' := (ngB H)) (B' := AH) (m' := nH) (d' := cH) (g := w.heap.size) (by omega)
    replace z_t := z_t.putK (b' := (ngB S)) (A' := At) (n' := nt) (c' := ct) (p' := (ngB H)) (B' := AH) (m' := nH) (d' := cH) x_r
    replace z_s := z_s.putK (b' := (ngB S)) (A' := At) (n' := nt) (c' := ct) (p' := (ngB H)) (B' := AH) (m' := nH) (d' := cH) x_r
    replace z_H := z_H.putK (b' := (ngB S)) (A' := At) (n' := nt) (c' := ct) (p' := (ngB H)) (B' := AH) (m' := nH) (d' := cH) x_r
    replace hb := hb.putK (b' := (ngB S)) (A' := At) (n' := nt) (c' := ct) (p' := (ngB H)) (B' := AH) (m' := nH) (d' := cH) (Or.inr (by omega)) x_r
    replace x_r := x_r.put (ngB S) At nt ct (ngB H) AH nH cH
    clear q_r q_t
    generalize (((v33.setCell ⟨w.heap.size, 0, none⟩ (.bool (ngB S))).setCell ⟨w.heap.size, 1, none⟩ (.slice At nt ct)).setCell ⟨w.heap.size, 2, none⟩ (.bool (ngB H))).setCell ⟨w.heap.size, 3, none⟩ (.slice AH nH cH) = v34 at *
    have q_r := x_r.al
    have q_t := x_t.al
    go_wp2
    refine bodyPost_ret (v := .agg #[.bool (ngB S), .slice At nt ct, .bool (ngB H), .slice AH nH cH]) (by simp [results, Tryz.results175, go_sem, q_r]) rfl ?_
    exact ⟨_, _, _, _, _, _, by rw [HS2.out, HH2.out], by rw [HS2.out]; exact z_t.wide (by omega), by rw [HH2.out]; exact z_H, hb⟩
  ·rcases hpm with ⟨hpar, rfl, rfl⟩ | ⟨hpar, rfl, rfl⟩
   ·obtain ⟨j, hj⟩ : ∃ j, k = 2 * j := ⟨k / 2, by omega⟩
    obtain ⟨S1, hS1⟩ : ∃ e, altI f g (k + 1) = e := ⟨_, rfl⟩
    have HS1 : Hid (S + U = S1) := Lib.hid (by rw [← hS1, ← hS, ← hU, hj]; exact (alt_even f g j).symm)
    obtain ⟨T1, hT1⟩ : ∃ e, altI g f (k + 1) = e := ⟨_, rfl⟩
    have HT1 : Hid (T + R = T1) := Lib.hid (by rw [← hT1, ← hT, ← hR, hj]; exact (alt_even g f j).symm)
    have B1 : Hid (Si S1 20) := Lib.hid (by rw [← hS1]; exact HF.out _ (by omega)); have B2 : Hid (Si T1 20) := Lib.hid (by rw [← hT1]; exact HH.out _ (by omega))
    have ES := Lib.hid hS1; have ET := Lib.hid hT1; have HU := Lib.hid hU; have HR := Lib.hid hR
    have HJ := Lib.hid hj
    clear hS hT hU hR hS1 hT1 hj
    have hkt : (k : Int) < 2 * n := by omega
    have q_r := x_r.al
    have q_t := x_t.al
    go_upto_region 5 with fail
    go_region_law (first | (go_simp; go_at_call 148; (with_reducible refine (Kplus_any z_t.zr z_s.zr z5 z6 (by omega)).mono ?_); rintro e v32 ⟨A8, n8, c8, A9, n9, c9, rfl, z8, z9, hb1⟩; obtain ⟨x_r, x_t, z_t, z_s, z5, z6, hg2⟩ := mv7 hb1 x_r x_t z_t z_s z5 z6 hg2; replace hb := hb.thenB hb1; clear hb1; replace q_r := x_r.al; replace q_t := x_t.al; rw [HS1.out] at z8 ⊢; rw [HT1.out] at z9 ⊢; replace z8 := z8.slim B1.out; replace z9 := z9.slim B2.out) | (go_simp; (with_reducible refine (G.step _ k (by omega) hg.drw).mono ?_); rintro e v31 ⟨bA, AA, nA, cA, bC, AC, nC, cC, rfl, z5, z6, hg2, hb1⟩; replace hb1 := frdrew hb1; replace x_r := x_r.via hb1 (fun hq => by have := G.lt _ hq; omega); replace x_t := x_t.via hb1 (fun hq => by have := G.lt _ hq; omega); replace z_t := z_t.via hb1; replace z_s := z_s.via hb1; replace hb := hb.trans hb1; clear hb1; replace q_r := x_r.al; replace q_t := x_t.al; rw [HU.out] at z5; rw [HR.out] at z6))
    all_goals
     go_wp2_with fail
     replace x_r := x_r.asideK (b' := (ngB S1)) (A' := A8) (n' := n8) (c' := c8) (p' := (ngB T1)) (B' := A9) (m' := n9) (d' := c9) (g := gt) (by omega)
     replace z_t := z_t.putK (b' := (ngB S1)) (A' := A8) (n' := n8) (c' := c8) (p' := (ngB T1)) (B' := A9) (m' := n9) (d' := c9) x_t
     replace z_s := z_s.putK (b' := (ngB S1)) (A' := A8) (n' := n8) (c' := c8) (p' := (ngB T1)) (B' := A9) (m' := n9) (d' := c9) x_t
     replace z5 := z5.putK (b' := (ngB S1)) (A' := A8) (n' := n8) (c' := c8) (p' := (ngB T1)) (B' := A9) (m' := n9) (d' := c9) x_t
     replace z6 := z6.putK (b' := (ngB S1)) (A' := A8) (n' := n8) (c' := c8) (p' := (ngB T1)) (B' := A9) (m' := n9) (d' := c9) x_t
     replace hg2 := hg2.putK (b' := (ngB S1)) (A' := A8) (n' := n8) (c' := c8) (p' := (ngB T1)) (B' := A9) (m' := n9) (d' := c9) (by omega) x_t
     replace z8 := z8.putK (b' := (ngB S1)) (A' := A8) (n' := n8) (c' := c8) (p' := (ngB T1)) (B' := A9) (m' := n9) (d' := c9) x_t
     replace z9 := z9.putK (b' := (ngB S1)) (A' := A8) (n' := n8) (c' := c8) (p' := (ngB T1)) (B' := A9) (m' := n9) (d' := c9) x_t
     replace hb := hb.putK (b' := (ngB S1)) (A' := A8) (n' := n8) (c' := c8) (p' := (ngB T1)) (B' := A9) (m' := n9) (d' := c9) (Or.inr (by omega)) x_t
     replace x_t := x_t.put (ngB S1) A8 n8 c8 (ngB T1) A9 n9 c9
     clear q_r q_t
     generalize (((v32.setCell ⟨gt, 0, none⟩ (.bool (ngB S1))).setCell ⟨gt, 1, none⟩ (.slice A8 n8 c8)).setCell ⟨gt, 2, none⟩ (.bool (ngB T1))).setCell ⟨gt, 3, none⟩ (.slice A9 n9 c9) = v33 at *
     have q_r := x_r.al
     have q_t := x_t.al
     go_roundw
     case rel => exact ⟨k + 1, by omega, by go_num, Or.inr ⟨by omega, rfl, rfl⟩, hb, x_r, ⟨_, _, _, _, _, _, by rw [ES.out, ET.out]; exact x_t, by rw [ES.out]; exact z8, by rw [ET.out]; exact z9⟩, hg2⟩
     case measure => simp [intOf]; omega
   ·obtain ⟨j, hj⟩ : ∃ j, k = 2 * j + 1 := ⟨k / 2, by omega⟩
    obtain ⟨S1, hS1⟩ : ∃ e, altI f g (k + 1) = e := ⟨_, rfl⟩
    have HS1 : Hid (S - R = S1) := Lib.hid (by rw [← hS1, ← hS, ← hR, hj]; exact (alt_odd2 f g j).symm)
    obtain ⟨T1, hT1⟩ : ∃ e, altI g f (k + 1) = e := ⟨_, rfl⟩
    have HT1 : Hid (T - U = T1) := Lib.hid (by rw [← hT1, ← hT, ← hU, hj]; exact (alt_odd2 g f j).symm)
    have B1 : Hid (Si S1 20) := Lib.hid (by rw [← hS1]; exact HF.out _ (by omega)); have B2 : Hid (Si T1 20) := Lib.hid (by rw [← hT1]; exact HH.out _ (by omega))
    have ES := Lib.hid hS1; have ET := Lib.hid hT1; have HU := Lib.hid hU; have HR := Lib.hid hR
    have HJ := Lib.hid hj
    clear hS hT hU hR hS1 hT1 hj
    have hkt : (k : Int) < 2 * n := by omega
    have q_r := x_r.al
    have q_t := x_t.al
    go_upto_region 5 with fail
    go_region_law (first | (go_simp; go_at_call 178; (with_reducible refine (Kminus_any z_t.zr z_s.zr z5 z6 (by omega)).mono ?_); rintro e v32 ⟨A8, n8, c8, A9, n9, c9, rfl, z8, z9, hb1⟩; obtain ⟨x_r, x_t, z_t, z_s, z5, z6, hg2⟩ := mv7 hb1 x_r x_t z_t z_s z5 z6 hg2; replace hb := hb.thenB hb1; clear hb1; replace q_r := x_r.al; replace q_t := x_t.al; rw [HS1.out] at z8 ⊢; rw [HT1.out] at z9 ⊢; replace z8 := z8.slim B1.out; replace z9 := z9.slim B2.out) | (go_simp; (with_reducible refine (G.step _ k (by omega) hg.drw).mono ?_); rintro e v31 ⟨bA, AA, nA, cA, bC, AC, nC, cC, rfl, z5, z6, hg2, hb1⟩; replace hb1 := frdrew hb1; replace x_r := x_r.via hb1 (fun hq => by have := G.lt _ hq; omega); replace x_t := x_t.via hb1 (fun hq => by have := G.lt _ hq; omega); replace z_t := z_t.via hb1; replace z_s := z_s.via hb1; replace hb := hb.trans hb1; clear hb1; replace q_r := x_r.al; replace q_t := x_t.al; rw [HU.out] at z5; rw [HR.out] at z6))
    all_goals
     go_wp2_with fail
     replace x_r := x_r.asideK (b' := (ngB S1)) (A' := A8) (n' := n8) (c' := c8) (p' := (ngB T1)) (B' := A9) (m' := n9) (d' := c9) (g := gt) (by omega)
     replace z_t := z_t.putK (b' := (ngB S1)) (A' := A8) (n' := n8) (c' := c8) (p' := (ngB T1)) (B' := A9) (m' := n9) (d' := c9) x_t
     replace z_s := z_s.putK (b' := (ngB S1)) (A' := A8) (n' := n8) (c' := c8) (p' := (ngB T1)) (B' := A9) (m' := n9) (d' := c9) x_t
     replace z5 := z5.putK (b' := (ngB S1)) (A' := A8) (n' := n8) (c' := c8) (p' := (ngB T1)) (B' := A9) (m' := n9) (d' := c9) x_t
     replace z6 := z6.putK (b' := (ngB S1)) (A' := A8) (n' := n8) (c' := c8) (p' := (ngB T1)) (B' := A9) (m' := n9) (d' := c9) x_t
     replace hg2 := hg2.putK (b' := (ngB S1)) (A' := A8) (n' := n8) (c' := c8) (p' := (ngB T1)) (B' := A9) (m' := n9) (d' := c9) (by omega) x_t
     replace z8 := z8.putK (b' := (ngB S1)) (A' := A8) (n' := n8) (c' := c8) (p' := (ngB T1)) (B' := A9) (m' := n9) (d' := c9) x_t
     replace z9 := z9.putK (b' := (ngB S1)) (A' := A8) (n' := n8) (c' := c8) (p' := (ngB T1)) (B' := A9) (m' := n9) (d' := c9) x_t
     replace hb := hb.putK (b' := (ngB S1)) (A' := A8) (n' := n8) (c' := c8) (p' := (ngB T1)) (B' := A9) (m' := n9) (d' := c9) (Or.inr (by omega)) x_t
     replace x_t := x_t.put (ngB S1) A8 n8 c8 (ngB T1) A9 n9 c9
     clear q_r q_t
     generalize (((v32.setCell ⟨gt, 0, none⟩ (.bool (ngB S1))).setCell ⟨gt, 1, none⟩ (.slice A8 n8 c8)).setCell ⟨gt, 2, none⟩ (.bool (ngB T1))).setCell ⟨gt, 3, none⟩ (.slice A9 n9 c9) = v33 at *
     have q_r := x_r.al
     have q_t := x_t.al
     go_roundw
     case rel => exact ⟨k + 1, by omega, by go_num, Or.inl ⟨by omega, rfl, rfl⟩, hb, x_r, ⟨_, _, _, _, _, _, by rw [ES.out, ET.out]; exact x_t, by rw [ES.out]; exact z8, by rw [ET.out]; exact z9⟩, hg2⟩
     case measure => simp [intOf]; omega
end Go.Proofs.YtjlbngjeekdfcaaGreatDoor
namespace Go.Proofs.YtjlbngjeekdfcaaGreatDoor
variable {B BI N fid go gp : Nat}
set_option maxRecDepth 100000
set_option maxHeartbeats 16000000
set_option linter.unusedVariables false
open Go.RowKit
def OdI (go gp fid : Nat) (caps : Array Value) (BI : Nat) (II : World → Nat → Prop) (w : World) (k : Nat) : Prop :=
 Cx w go (.int .i64 (2 * (k : Int) - 1)) 2 ∧ Cx w gp (.func (.func fid) #[] caps) 157 ∧ Gs BI II w k
theorem OdI.keep {caps : Array Value} {II : World → Nat → Prop} (h1 : go < B) (h2 : gp < B) (h3 : BI ≤ B) (v v' : World) (j : Nat) (h : OdI go gp fid caps BI II v j) (hf : Fr (fun b => B ≤ b) v v') : OdI go gp fid caps BI II v' j :=
 ⟨h.1.via hf (by omega), h.2.1.via hf (by omega), h.2.2.via hf (fun b hb => by omega)⟩
def odC (f : Nat → Int) (k : Nat) : Int := f k / (2 * k + 1)
def odD (g : Nat → Int) (k : Nat) : Int := -(-g k / (2 * k + 1))
theorem ent_odd2 : ∀ (args : Array Value) (w : World), (callFunc 154 args).run Tryz.prog w = .ok (.enter 154 args) w := enters_of Tryz.func154 (by kernel_rfl) rfl
theorem Kodd2_any {caps : Array Value} {PI : Nat → Prop} {II : World → Nat → Prop} {f g : Nat → Int} (G : Gen PI BI fid caps II f g N) (hs : ∀ k, Si (odC f k) 20 ∧ Si (odD g k) 20) (hN : N ≤ 1000) (ho : BI ≤ go ∧ gp < go ∧ go < B) (hp : ¬ PI gp) (w : World) (k : Nat) (hk : k ≤ N) (hG : Gs B (OdI go gp fid caps BI II) w k) :
  Calls Tryz.prog 154 #[.pointer (some ⟨go, 0, none⟩), .pointer (some ⟨gp, 0, none⟩)] w (GPost (fun b => b = go ∨ PI b) B (OdI go gp fid caps BI II) (odC f) (odD g) w k) := by
 obtain ⟨⟨x_o, x_p, hg⟩, hB, hkeep⟩ := hG
 have HK := Lib.hid hkeep; clear hkeep
 have HE := G.ent
 have hgo : ¬ PI go := fun h => by have := G.lt _ h; omega
 obtain ⟨U, hU⟩ : ∃ e, f k = e := ⟨_, rfl⟩
 obtain ⟨V, hV⟩ : ∃ e, g k = e := ⟨_, rfl⟩
 obtain ⟨C, hC⟩ : ∃ e, odC f k = e := ⟨_, rfl⟩
 obtain ⟨D, hD⟩ : ∃ e, odD g k = e := ⟨_, rfl⟩
 have HC : Hid (U / (2 * (k : Int) + 1) = C) := Lib.hid (by rw [← hU]; exact hC)
 have HD : Hid (-(-V / (2 * (k : Int) + 1)) = D) := Lib.hid (by rw [← hV]; exact hD)
 have B1 : Hid (Si C 20) := Lib.hid (by rw [← hC]; exact (hs _).1)
 have B2 : Hid (Si D 20) := Lib.hid (by rw [← hD]; exact (hs _).2)
 have EU := Lib.hid hU; have EV := Lib.hid hV; have EC := Lib.hid hC; have ED := Lib.hid hD
 clear hU hV hC hD hs
 have w1 : IntKind.i64.wrap (2 * (k : Int) - 1 + 2) = 2 * k + 1 := by rw [show 2 * (k : Int) - 1 + 2 = 2 * k + 1 by omega]; exact wrapK (by omega) (by omega)
 go_enter Tryz.func154, Tryz.ntmps154
 have hl_o := x_o.lt
 have hl_p := x_p.lt
 go_upto_region 1 with fail
 have x_r : Kx (w.alloc (.cells #[.bool false, .slice none 0 0, .bool false, .slice none 0 0] 161)) (w.heap.size) false none 0 0 false none 0 0 := by have := Kx.new w false none 0 0 false none 0 0; simpa using this
 have hb : Below w.heap.size w (w.alloc (.cells #[.bool false, .slice none 0 0, .bool false, .slice none 0 0] 161)) := (Below.alloc (Below.refl w.heap.size w) (by simp) (.cells #[.bool false, .slice none 0 0, .bool false, .slice none 0 0] 161))
 generalize w.alloc (.cells #[.bool false, .slice none 0 0, .bool false, .slice none 0 0] 161) = v1 at *
 obtain ⟨hg, x_o, x_p⟩ := mv3 hb hg x_o x_p
 replace hb := Fr.of (P := (fun b => b = go ∨ PI b)) hb
 have q_o := x_o.al
 have q_p := x_p.al
 have q_r := x_r.al
 go_upto_region 2 with fail
 replace x_p := x_p.asideC (v' := (.int .i64 (2 * (k : Int) + 1))) (g := go) (by omega)
 replace x_r := x_r.asideC (v' := (.int .i64 (2 * (k : Int) + 1))) (g := go) (by omega)
 replace hg := hg.putC (v' := (.int .i64 (2 * (k : Int) + 1))) (by omega) x_o
 replace hb := hb.putC (v' := (.int .i64 (2 * (k : Int) + 1))) (Or.inl (Or.inl rfl)) x_o
 replace x_o := x_o.put (.int .i64 (2 * (k : Int) + 1)) (2)
 clear q_o q_p q_r
 generalize v1.setCell ⟨go, 0, none⟩ (.int .i64 (2 * (k : Int) + 1)) = v2 at *
 have q_o := x_o.al
 have q_p := x_p.al
 have q_r := x_r.al
 go_wp2_with fail
 go_region_held3 (fun w' => w'.cell? ⟨go, 0, none⟩ = some (.int .i64 (2 * (k : Int) + 1)) ∧ w'.cell? ⟨gp, 0, none⟩ = some (.func (.func fid) #[] caps))
  (first | (with_reducible exact ⟨x_o.drew.c0, x_p.drew.c0⟩) | (with_reducible exact ⟨x_o.c0, x_p.c0⟩) | (with_reducible exact ⟨(x_o.asideK (by omega)).c0, (x_p.asideK (by omega)).c0⟩))
  (first | (go_at_call 20; (with_reducible refine (ZOf_any (2 * (k : Int) + 1) (by omega) (by omega)).mono ?_); rintro e v4 ⟨A7, n7, c7, rfl, z7, hb1⟩; obtain ⟨x_o, x_p, x_r, z5, z6, hg2⟩ := mv6 hb1 x_o x_p x_r z5 z6 hg2; replace hb := hb.thenB hb1; clear hb1; replace q_o := x_o.al; replace q_p := x_p.al; replace q_r := x_r.al) | (go_at_call 147; (with_reducible refine (Kover_any z5 z6 z7.zr (by omega) (by omega) (by omega) (by omega)).mono ?_); rintro e v5 ⟨A8, n8, c8, A9, n9, c9, rfl, z8, z9, hb1⟩; obtain ⟨x_o, x_p, x_r, z5, z6, hg2, z7⟩ := mv7 hb1 x_o x_p x_r z5 z6 hg2 z7; replace hb := hb.thenB hb1; clear hb1; replace q_o := x_o.al; replace q_p := x_p.al; replace q_r := x_r.al; rw [HC.out] at z8 ⊢; rw [HD.out] at z9 ⊢; replace z8 := z8.slim B1.out; replace z9 := z9.slim B2.out) | ((with_reducible refine (G.step _ k (by omega) hg.drw).mono ?_); rintro e v3 ⟨bA, AA, nA, cA, bC, AC, nC, cC, rfl, z5, z6, hg2, hb1⟩; replace hb1 := frdrew hb1; replace x_o := x_o.via hb1 hgo; replace x_p := x_p.via hb1 hp; replace x_r := x_r.via hb1 (fun hq => by have := G.lt _ hq; omega); replace hb := hb.trans (hb1.mono (fun b _ e => Or.inr e)); clear hb1; replace q_o := x_o.al; replace q_p := x_p.al; replace q_r := x_r.al; rw [EU.out] at z5; rw [EV.out] at z6))
 go_wp2
 replace x_o := x_o.asideK (b' := (ngB C)) (A' := A8) (n' := n8) (c' := c8) (p' := (ngB D)) (B' := A9) (m' := n9) (d' := c9) (g := w.heap.size) (by omega)
 replace x_p := x_p.asideK (b' := (ngB C)) (A' := A8) (n' := n8) (c' := c8) (p' := (ngB D)) (B' := A9) (m' := n9) (d' := c9) (g := w.heap.size) (by omega)
 replace z5 := z5.putK (b' := (ngB C)) (A' := A8) (n' := n8) (c' := c8) (p' := (ngB D)) (B' := A9) (m' := n9) (d' := c9) x_r
 replace z6 := z6.putK (b' := (ngB C)) (A' := A8) (n' := n8) (c' := c8) (p' := (ngB D)) (B' := A9) (m' := n9) (d' := c9) x_r
 replace hg2 := hg2.putK (b' := (ngB C)) (A' := A8) (n' := n8) (c' := c8) (p' := (ngB D)) (B' := A9) (m' := n9) (d' := c9) (by omega) x_r
 replace z7 := z7.putK (b' := (ngB C)) (A' := A8) (n' := n8) (c' := c8) (p' := (ngB D)) (B' := A9) (m' := n9) (d' := c9) x_r
 replace z8 := z8.putK (b' := (ngB C)) (A' := A8) (n' := n8) (c' := c8) (p' := (ngB D)) (B' := A9) (m' := n9) (d' := c9) x_r
 replace z9 := z9.putK (b' := (ngB C)) (A' := A8) (n' := n8) (c' := c8) (p' := (ngB D)) (B' := A9) (m' := n9) (d' := c9) x_r
 replace hb := hb.putK (b' := (ngB C)) (A' := A8) (n' := n8) (c' := c8) (p' := (ngB D)) (B' := A9) (m' := n9) (d' := c9) (Or.inr (by omega)) x_r
 replace x_r := x_r.put (ngB C) A8 n8 c8 (ngB D) A9 n9 c9
 clear q_o q_p q_r
 generalize (((v5.setCell ⟨w.heap.size, 0, none⟩ (.bool (ngB C))).setCell ⟨w.heap.size, 1, none⟩ (.slice A8 n8 c8)).setCell ⟨w.heap.size, 2, none⟩ (.bool (ngB D))).setCell ⟨w.heap.size, 3, none⟩ (.slice A9 n9 c9) = v6 at *
 have q_o := x_o.al
 have q_p := x_p.al
 have q_r := x_r.al
 have e2 : 2 * ((k + 1 : Nat) : Int) - 1 = 2 * k + 1 := by omega
 skip
 refine bodyPost_ret (v := .agg #[.bool (ngB C), .slice A8 n8 c8, .bool (ngB D), .slice A9 n9 c9]) (by simp [results, Tryz.results154, go_sem, q_r]) rfl ?_
 exact ⟨_, _, _, _, _, _, _, _, rfl, by rw [EC.out]; exact z8.zr, by rw [ED.out]; exact z9.zr, ⟨⟨by rw [e2]; exact x_o, x_p, hg2⟩, Nat.le_trans hB hb.size, HK.out⟩, hb⟩
theorem gen_odd {caps : Array Value} {PI : Nat → Prop} {II : World → Nat → Prop} {f g : Nat → Int} (G : Gen PI BI fid caps II f g N) (hs : ∀ k, Si (odC f k) 20 ∧ Si (odD g k) 20) (hN : N ≤ 1000) (ho : BI ≤ go ∧ gp < go ∧ go < B) (hp : ¬ PI gp) : Gen (fun b => b = go ∨ PI b) B 154 #[.pointer (some ⟨go, 0, none⟩), .pointer (some ⟨gp, 0, none⟩)] (OdI go gp fid caps BI II) (odC f) (odD g) N :=
 ⟨ent_odd2, fun b e => e.elim (fun e => by omega) (fun e => by have := G.lt _ e; omega), fun w k hk hG => Kodd2_any G hs hN ho hp w k hk hG⟩
end Go.Proofs.YtjlbngjeekdfcaaGreatDoor
