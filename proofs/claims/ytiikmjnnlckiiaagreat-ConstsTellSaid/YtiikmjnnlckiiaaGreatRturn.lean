/-
 the document's answers for rows: turned.
-/
import Derived.Test.YtiikmjnnlckiiaaGreatGgath
import Derived.Test.YtiikmjnnlckiiaaGreatRath
namespace Go.Proofs.YtiikmjnnlckiiaaGreat
open Go.RowKit
set_option linter.unusedVariables false

theorem Cz.at_ {w : World} {J : Nat} : ∀ {l : List Int} {xs : List Value}, Cz w J xs l → ∀ (k : Nat) (hk : k < l.length), ∃ A n c, xs[2 * k]? = some (.bool (ngB l[k])) ∧ xs[2 * k + 1]? = some (.slice A n c) ∧ Zn w A n c l[k] J
 | [], xs, h, k, hk => absurd hk (by simp)
 | X :: l, xs, h, k, hk => by
  obtain ⟨A, n, c, ys, rfl, hz, hc⟩ := h
  cases k with
  | zero => exact ⟨A, n, c, rfl, rfl, hz⟩
  | succ k =>
   obtain ⟨A1, n1, c1, h1, h2, h3⟩ := Cz.at_ hc k (by simpa using hk)
   exact ⟨A1, n1, c1, by rw [show 2 * (k + 1) = 2 * k + 1 + 1 by omega]; simpa using h1, by rw [show 2 * (k + 1) + 1 = 2 * k + 1 + 1 + 1 by omega]; simpa using h2, by simpa using h3⟩
theorem Oz.row {w : World} {g n cap : Nat} {xs : List Value} (h : Oz w g n cap xs) {i : Nat} {u : Value} (hu : xs[i]? = some u) : w.cell? ⟨g, i, none⟩ = some u := by
 obtain ⟨cur, hh, _, _, hcs, htk, hxl, _⟩ := h
 have hil : i < n * 2 := by have := (List.getElem?_eq_some_iff.1 hu).1; omega
 rw [cell_of_row w g i _ _ (0, 0) hh]
 rw [← htk, List.getElem?_take_of_lt hil] at hu
 simpa using hu
/-- A gathered slice that is not empty: where it lies, and what lies at each of its places. -/
theorem Gz.at_ {w : World} {B J : Nat} {s : Value} {l : List Int} (h : Gz w B J s l) (hl : 0 < l.length) :
  ∃ g cap, s = .slice (some ⟨g, 0, none⟩) l.length cap ∧ B ≤ g ∧ g < w.heap.size ∧ ∀ (k : Nat) (hk : k < l.length), ∃ A n c, w.cell? ⟨g, k * 2, none⟩ = some (.bool (ngB l[k])) ∧ w.cell? ⟨g, k * 2 + 1, none⟩ = some (.slice A n c) ∧ Zn w A n c l[k] J := by
 rcases h with ⟨_, rfl⟩ | ⟨g, cap, xs, rfl, h2, h3, h4⟩
 ·simp at hl
 ·refine ⟨g, cap, rfl, h2, h3.lt, fun k hk => ?_⟩
  obtain ⟨A, n, c, i1, i2, i3⟩ := h4.at_ k hk
  exact ⟨A, n, c, h3.row (by rw [Nat.mul_comm]; exact i1), h3.row (by rw [Nat.mul_comm]; exact i2), i3⟩
end Go.Proofs.YtiikmjnnlckiiaaGreat
namespace Go.Proofs.YtiikmjnnlckiiaaGreat
open Go.RowKit
set_option linter.unusedVariables false

theorem tmod_even {k : Nat} (h : k % 2 = 0) : (k : Int).tmod 2 = 0 := by rw [Int.tmod_eq_emod_of_nonneg (by omega)]; omega
theorem tmod_odd {k : Nat} (h : k % 2 = 1) : (k : Int).tmod 2 = 1 := by rw [Int.tmod_eq_emod_of_nonneg (by omega)]; omega
theorem alt_evR {f g : Nat → Int} {k : Nat} (h : k % 2 = 0) : altI f g (k + 1) = altI f g k + f k := by simp only [altI]; rw [if_pos h]
theorem alt_odd1 {f g : Nat → Int} {k : Nat} (h : k % 2 = 1) : altI f g (k + 1) = altI f g k - g k := by simp only [altI]; rw [if_neg (by omega)]; omega
/-- Two integers. -/
def Ou20 (w : World) (P Q : Int) (k : Nat) (e : Ending) (w' : World) : Prop := ∃ A n c A2 n2 c2, e = .returned (.tuple #[.agg #[.bool (ngB P), .slice A n c], .agg #[.bool (ngB Q), .slice A2 n2 c2]]) ∧ Zn w' A n c P k ∧ Zn w' A2 n2 c2 Q k ∧ Below w.heap.size w w'
theorem Ou20.mk {w w' : World} {P Q P' Q' : Int} {k n c n2 c2 : Nat} {A A2 : Option Addr} (e1 : P' = P) (e2 : Q' = Q) (z : Zn w' A n c P k) (z2 : Zn w' A2 n2 c2 Q k) (hb : Below w.heap.size w w') : Ou20 w P' Q' k (.returned (.tuple #[.agg #[.bool (ngB P), .slice A n c], .agg #[.bool (ngB Q), .slice A2 n2 c2]])) w' := by
 subst e1 e2
 exact ⟨_, _, _, _, _, _, rfl, z, z2, hb⟩
/-- What lies in a slice of L integers. -/
def Els (w : World) (g L : Nat) (f : Nat → Int) : Prop := ∀ k, k < L → ∃ A n c, w.cell? ⟨g, k * 2, none⟩ = some (.bool (ngB (f k))) ∧ w.cell? ⟨g, k * 2 + 1, none⟩ = some (.slice A n c) ∧ Zn w A n c (f k) 20
theorem Els.keep {w w' : World} {g L : Nat} {f : Nat → Int} (h : Els w g L f) (hg : g < w.heap.size) (hb : Below w.heap.size w w') : Els w' g L f := fun k hk => by
 obtain ⟨A, n, c, h1, h2, h3⟩ := h k hk
 exact ⟨A, n, c, (show w'.cell? ⟨g, k * 2, none⟩ = w.cell? ⟨g, k * 2, none⟩ from hb.cell hg).trans h1, (show w'.cell? ⟨g, k * 2 + 1, none⟩ = w.cell? ⟨g, k * 2 + 1, none⟩ from hb.cell hg).trans h2, h3.keep hb⟩
/-- What the loop keeps. -/
def TuRel (w : World) (g3 g4 : Nat) (S T : Int) (wr : World) : Prop := Below w.heap.size w wr ∧ Bx wr w.heap.size false none 0 0 ∧ Bx wr (w.heap.size + 1) false none 0 0 ∧ Bn wr g3 S 20 ∧ Bn wr g4 T 20

set_option maxRecDepth 100000 in
set_option maxHeartbeats 16000000 in
theorem Rturned_any {f g : Nat → Int} {ga gb L cp cq : Nat} {w : World} (hL : 1 ≤ L ∧ L ≤ 801) (hLo : L % 2 = 1) (hla : ga < w.heap.size) (hlb : gb < w.heap.size) (hA : Els w ga L f) (hB : Els w gb L g) (hS : ∀ k, k ≤ 801 → Si (altI f g k) 20) (hT : ∀ k, k ≤ 801 → Si (altI g f k) 20) :
  Calls Tryz.prog 85 #[.slice (some ⟨ga, 0, none⟩) L cp, .slice (some ⟨gb, 0, none⟩) L cq] w (Ou20 w (altI f g (L - 1)) (altI g f L) 20) := by
 have HA := Lib.hid hA; have HB := Lib.hid hB; have BS := Lib.hid hS; have BT := Lib.hid hT; clear hA hB hS hT
 go_enter Tryz.func85, Tryz.ntmps85
 go_upto_region 1 with fail
 have x_r : Bx (w.alloc (.cells #[.bool false, .slice none 0 0] 25)) (w.heap.size) false none 0 0 := by have := Bx.new w false none 0 0; simpa using this
 replace x_r := x_r.alloc (.cells #[.bool false, .slice none 0 0] 25)
 have x_p : Bx ((w.alloc (.cells #[.bool false, .slice none 0 0] 25)).alloc (.cells #[.bool false, .slice none 0 0] 25)) (w.heap.size + 1) false none 0 0 := by have := Bx.new (w.alloc (.cells #[.bool false, .slice none 0 0] 25)) false none 0 0; simpa using this
 have hb : Below w.heap.size w ((w.alloc (.cells #[.bool false, .slice none 0 0] 25)).alloc (.cells #[.bool false, .slice none 0 0] 25)) := (Below.alloc (Below.alloc (Below.refl w.heap.size w) (by simp) (.cells #[.bool false, .slice none 0 0] 25)) (by simp) (.cells #[.bool false, .slice none 0 0] 25))
 generalize (w.alloc (.cells #[.bool false, .slice none 0 0] 25)).alloc (.cells #[.bool false, .slice none 0 0] 25) = v1 at *
 have q_r := x_r.al
 have q_p := x_p.al
 clear q_r
 clear q_p
 go_upto_region 2 with fail
 have hb1 := below_alloc v1 (.cells #[.bool false, .slice none 0 0] 25)
 have l_r_s := x_r.lt
 have l_p_s := x_p.lt
 have x_s := Bx.new v1 false none 0 0
 have e_s : w.heap.size ≤ v1.heap.size := hb.size
 obtain ⟨x_r, x_p⟩ := mv2 hb1 x_r x_p
 replace hb := bthen hb hb1
 clear hb1
 generalize v1.alloc (.cells #[.bool false, .slice none 0 0] 25) = v2 at *
 have q_s := x_s.al
 go_upto_region 3 with fail
 have hb1 := below_alloc v2 (.cells #[.bool false, .slice none 0 0] 25)
 have l_r_t := x_r.lt
 have l_p_t := x_p.lt
 have l_s_t := x_s.lt
 have x_t := Bx.new v2 false none 0 0
 have e_t : w.heap.size ≤ v2.heap.size := hb.size
 clear q_s
 obtain ⟨x_r, x_p, x_s⟩ := mv3 hb1 x_r x_p x_s
 replace hb := bthen hb hb1
 clear hb1
 generalize v2.alloc (.cells #[.bool false, .slice none 0 0] 25) = v3 at *
 have q_s := x_s.al
 have q_t := x_t.al
 go_wp2_with fail
 have hrel0 : TuRel w (v1.heap.size) (v2.heap.size) (altI f g 0) (altI g f 0) v3 := ⟨hb, x_r, x_p, ⟨_, _, _, x_s, Zn.nl _ _⟩, ⟨_, _, _, x_t, Zn.nl _ _⟩⟩
 clear q_s q_t
 obtain ⟨g3, hg3⟩ : ∃ g, v1.heap.size = g := ⟨_, rfl⟩; obtain ⟨g4, hg4⟩ : ∃ g, v2.heap.size = g := ⟨_, rfl⟩
 have hgs : w.heap.size + 1 < g3 ∧ g3 < g4 := by omega
 rw [hg3, hg4] at hrel0
 simp only [hg3, hg4]
 clear hb x_r x_p x_s x_t hg3 hg4
 go_loopw [8] (fun kv wr => ∃ k : Nat, k ≤ L ∧ kv = .int .i64 (k : Int) ∧ TuRel w g3 g4 (altI f g (min k (L - 1))) (altI g f k) wr) (fun kv _ => L + 2 - (intOf kv).toNat)
 case atStart => exact ⟨0, by omega, rfl, by rw [Nat.zero_min]; exact hrel0⟩
 case round =>
  clear hrel0
  obtain ⟨k, hk, rfl, hb, x_r, x_p, ⟨As, ns, cs, x_s, z_s⟩, ⟨At, nt, ct, x_t, z_t⟩⟩ := hrel
  obtain ⟨S, hS⟩ : ∃ e, altI f g (min k (L - 1)) = e := ⟨_, rfl⟩
  obtain ⟨T, hT⟩ : ∃ e, altI g f k = e := ⟨_, rfl⟩
  rw [hS] at x_s z_s; rw [hT] at x_t z_t
  rcases (show k = L ∨ (k < L - 1 ∧ k % 2 = 0) ∨ (k < L ∧ L ≤ k + 1 ∧ k % 2 = 0) ∨ (k < L - 1 ∧ k % 2 = 1) by omega) with hk2 | ⟨hk2, hk3⟩ | ⟨hk2, hk4, hk3⟩ | ⟨hk2, hk3⟩
  ·have HS : Hid (altI f g (L - 1) = S) := Lib.hid (by rw [← hS, hk2, Nat.min_eq_right (by omega)])
   have HT : Hid (altI g f L = T) := Lib.hid (by rw [← hT, hk2])
   clear hS hT
   subst hk2
   have q_r := x_r.al
   have q_p := x_p.al
   have q_s := x_s.al
   have q_t := x_t.al
   go_upto_region 12 with fail
   go_region
   all_goals
    replace x_p := x_p.aside (b' := (ngB S)) (A' := As) (n' := ns) (c' := cs) (g := w.heap.size) (by omega)
    replace x_s := x_s.aside (b' := (ngB S)) (A' := As) (n' := ns) (c' := cs) (g := w.heap.size) (by omega)
    replace x_t := x_t.aside (b' := (ngB S)) (A' := As) (n' := ns) (c' := cs) (g := w.heap.size) (by omega)
    replace z_s := z_s.put (b' := (ngB S)) (A' := As) (n' := ns) (c' := cs) x_r
    replace z_t := z_t.put (b' := (ngB S)) (A' := As) (n' := ns) (c' := cs) x_r
    replace hb := put_below (g := w.heap.size) hb (by omega) (.bool (ngB S)) (.slice As ns cs)
    replace x_r := x_r.put (ngB S) As ns cs
    clear q_r q_p q_s q_t
    generalize (wr.setCell ⟨w.heap.size, 0, none⟩ (.bool (ngB S))).setCell ⟨w.heap.size, 1, none⟩ (.slice As ns cs) = v31 at *
    have q_r := x_r.al
    have q_p := x_p.al
    have q_s := x_s.al
    have q_t := x_t.al
    replace x_r := x_r.aside (b' := (ngB T)) (A' := At) (n' := nt) (c' := ct) (g := w.heap.size + 1) (by omega)
    replace x_s := x_s.aside (b' := (ngB T)) (A' := At) (n' := nt) (c' := ct) (g := w.heap.size + 1) (by omega)
    replace x_t := x_t.aside (b' := (ngB T)) (A' := At) (n' := nt) (c' := ct) (g := w.heap.size + 1) (by omega)
    replace z_s := z_s.put (b' := (ngB T)) (A' := At) (n' := nt) (c' := ct) x_p
    replace z_t := z_t.put (b' := (ngB T)) (A' := At) (n' := nt) (c' := ct) x_p
    replace hb := put_below (g := w.heap.size + 1) hb (by omega) (.bool (ngB T)) (.slice At nt ct)
    replace x_p := x_p.put (ngB T) At nt ct
    clear q_r q_p q_s q_t
    generalize (v31.setCell ⟨w.heap.size + 1, 0, none⟩ (.bool (ngB T))).setCell ⟨w.heap.size + 1, 1, none⟩ (.slice At nt ct) = v32 at *
    have q_r := x_r.al
    have q_p := x_p.al
    have q_s := x_s.al
    have q_t := x_t.al
    go_wp2
    refine bodyPost_ret (v := .tuple #[.agg #[.bool (ngB S), .slice As ns cs], .agg #[.bool (ngB T), .slice At nt ct]]) (by simp [results, Tryz.results85, go_sem, q_r, q_p]) rfl ?_
    exact Ou20.mk HS.out HT.out z_s.drw z_t.drw (below_drew hb)
  ·have h2 := tmod_even hk3
   obtain ⟨Fk, hF⟩ : ∃ e, f k = e := ⟨_, rfl⟩; obtain ⟨Gk, hG⟩ : ∃ e, g k = e := ⟨_, rfl⟩
   obtain ⟨T1, hT1⟩ : ∃ e, altI g f (k + 1) = e := ⟨_, rfl⟩
   have HT1 : Hid (T + Gk = T1) := Lib.hid (by rw [← hT, ← hG, ← hT1, alt_evR hk3])
   have ET1 := Lib.hid hT1
   have B2 : Hid (Si T1 20) := Lib.hid (by rw [← hT1]; exact BT.out _ (by omega))
   obtain ⟨S1, hS1⟩ : ∃ e, altI f g (min (k + 1) (L - 1)) = e := ⟨_, rfl⟩
   have HS1 : Hid (S + Fk = S1) := Lib.hid (by rw [← hS, ← hF, ← hS1, Nat.min_eq_left (by omega), Nat.min_eq_left (by omega), alt_evR hk3])
   have ES1 := Lib.hid hS1
   have B1 : Hid (Si S1 20) := Lib.hid (by rw [← hS1]; exact BS.out _ (by omega))
   have HF := Lib.hid hF; have HG := Lib.hid hG; clear hS hT hT1 hF hG hS1
   have q_s := x_s.al
   have q_t := x_t.al
   have w1 : IntKind.i64.wrap ((L : Int) - 1) = (L : Int) - 1 := wrapR (by omega) (by omega)
   obtain ⟨Ae1, ne1, ce1, e0_1, e1_1, ze1⟩ := (HB.out.keep hlb hb) k (by omega)
   rw [HG.out] at e0_1 ze1
   go_upto_region 7 with fail
   have hv := Below.refl wr.heap.size wr
   go_cut [25] (fun _ wx => StB wr (g4) T1 wx)
   case first =>
    go_region_law (first | (go_simp; go_at_call 33; (with_reducible refine (RAddZ_any z_t.drw.zr ze1.drw.zr 21 (by omega) (by omega) (by omega)).mono ?_); rintro e v31 ⟨A21, n21, c21, rfl, z21, hb1⟩; replace hb1 := undrew hb1; replace hv := bthen hv hb1; obtain ⟨x_r, x_p, x_s, x_t, z_s, z_t, ze1⟩ := mv7 hb1 x_r x_p x_s x_t z_s z_t ze1; replace hb := bthen hb hb1; clear hb1; replace q_s := x_s.al; replace q_t := x_t.al; rw [HT1.out] at z21 ⊢; replace z21 := z21.slim B2.out))
    all_goals go_wp2_with fail
    all_goals go_meet
    all_goals exact StB.put hv x_t z21
   obtain ⟨Ax32, nx32, cx32, x_N, z_N32, hgr⟩ := hcut
   clear hv x_t
   replace x_r := x_r.gr hgr (ne_box (by omega))
   replace x_p := x_p.gr hgr (ne_box (by omega))
   replace x_s := x_s.gr hgr (ne_box (by omega))
   replace z_s := z_s.gr hgr
   replace z_t := z_t.gr hgr
   replace ze1 := ze1.gr hgr
   replace hb := gr_below hb hb.size hgr (by omega)
   clear q_t
   clear q_s
   generalize wc = v33 at *
   have x_t := x_N; clear x_N hgr
   have q_s := x_s.al
   have q_t := x_t.al
   clear e0_1 e1_1
   obtain ⟨Ae2, ne2, ce2, e0_2, e1_2, ze2⟩ := (HA.out.keep hla hb) k (by omega)
   rw [HF.out] at e0_2 ze2
   go_upto_region 9 with fail
   go_region_law (first | (go_simp; go_at_call 33; (with_reducible refine (RAddZ_any z_s.drw.zr ze2.drw.zr 21 (by omega) (by omega) (by omega)).mono ?_); rintro e v34 ⟨A22, n22, c22, rfl, z22, hb1⟩; replace hb1 := undrew hb1; obtain ⟨x_r, x_p, x_s, x_t, z_s, z_t, ze1, z_N32, ze2⟩ := mv9 hb1 x_r x_p x_s x_t z_s z_t ze1 z_N32 ze2; replace hb := bthen hb hb1; clear hb1; replace q_s := x_s.al; replace q_t := x_t.al; rw [HS1.out] at z22 ⊢; replace z22 := z22.slim B1.out))
   all_goals
    replace x_r := x_r.aside (b' := (ngB S1)) (A' := A22) (n' := n22) (c' := c22) (g := g3) (by omega)
    replace x_p := x_p.aside (b' := (ngB S1)) (A' := A22) (n' := n22) (c' := c22) (g := g3) (by omega)
    replace x_t := x_t.aside (b' := (ngB S1)) (A' := A22) (n' := n22) (c' := c22) (g := g3) (by omega)
    replace z_s := z_s.put (b' := (ngB S1)) (A' := A22) (n' := n22) (c' := c22) x_s
    replace z_t := z_t.put (b' := (ngB S1)) (A' := A22) (n' := n22) (c' := c22) x_s
    replace ze1 := ze1.put (b' := (ngB S1)) (A' := A22) (n' := n22) (c' := c22) x_s
    replace z_N32 := z_N32.put (b' := (ngB S1)) (A' := A22) (n' := n22) (c' := c22) x_s
    replace ze2 := ze2.put (b' := (ngB S1)) (A' := A22) (n' := n22) (c' := c22) x_s
    replace z22 := z22.put (b' := (ngB S1)) (A' := A22) (n' := n22) (c' := c22) x_s
    replace hb := put_below (g := g3) hb (by omega) (.bool (ngB S1)) (.slice A22 n22 c22)
    replace x_s := x_s.put (ngB S1) A22 n22 c22
    clear q_s q_t
    generalize (v34.setCell ⟨g3, 0, none⟩ (.bool (ngB S1))).setCell ⟨g3, 1, none⟩ (.slice A22 n22 c22) = v35 at *
    have q_s := x_s.al
    have q_t := x_t.al
    clear e0_2 e1_2
    go_wp2_with fail
    go_roundw
    case rel => exact ⟨k + 1, by omega, by go_num, hb, x_r, x_p, ⟨_, _, _, by rw [ES1.out]; exact x_s, by rw [ES1.out]; exact z22⟩, ⟨_, _, _, by rw [ET1.out]; exact x_t, by rw [ET1.out]; exact z_N32⟩⟩
    case measure => simp [intOf]; omega
  ·have h2 := tmod_even hk3
   obtain ⟨Fk, hF⟩ : ∃ e, f k = e := ⟨_, rfl⟩; obtain ⟨Gk, hG⟩ : ∃ e, g k = e := ⟨_, rfl⟩
   obtain ⟨T1, hT1⟩ : ∃ e, altI g f (k + 1) = e := ⟨_, rfl⟩
   have HT1 : Hid (T + Gk = T1) := Lib.hid (by rw [← hT, ← hG, ← hT1, alt_evR hk3])
   have ET1 := Lib.hid hT1
   have B2 : Hid (Si T1 20) := Lib.hid (by rw [← hT1]; exact BT.out _ (by omega))
   have ES1 : Hid (altI f g (min (k + 1) (L - 1)) = S) := Lib.hid (by rw [← hS, Nat.min_eq_right (by omega), Nat.min_eq_right (by omega)])
   have HF := Lib.hid hF; have HG := Lib.hid hG; clear hS hT hT1 hF hG
   have q_s := x_s.al
   have q_t := x_t.al
   have w1 : IntKind.i64.wrap ((L : Int) - 1) = (L : Int) - 1 := wrapR (by omega) (by omega)
   obtain ⟨Ae1, ne1, ce1, e0_1, e1_1, ze1⟩ := (HB.out.keep hlb hb) k (by omega)
   rw [HG.out] at e0_1 ze1
   go_upto_region 7 with fail
   have hv := Below.refl wr.heap.size wr
   go_cut [25] (fun _ wx => StB wr (g4) T1 wx)
   case first =>
    go_region_law (first | (go_simp; go_at_call 33; (with_reducible refine (RAddZ_any z_t.drw.zr ze1.drw.zr 21 (by omega) (by omega) (by omega)).mono ?_); rintro e v31 ⟨A21, n21, c21, rfl, z21, hb1⟩; replace hb1 := undrew hb1; replace hv := bthen hv hb1; obtain ⟨x_r, x_p, x_s, x_t, z_s, z_t, ze1⟩ := mv7 hb1 x_r x_p x_s x_t z_s z_t ze1; replace hb := bthen hb hb1; clear hb1; replace q_s := x_s.al; replace q_t := x_t.al; rw [HT1.out] at z21 ⊢; replace z21 := z21.slim B2.out))
    all_goals go_wp2_with fail
    all_goals go_meet
    all_goals exact StB.put hv x_t z21
   obtain ⟨Ax32, nx32, cx32, x_N, z_N32, hgr⟩ := hcut
   clear hv x_t
   replace x_r := x_r.gr hgr (ne_box (by omega))
   replace x_p := x_p.gr hgr (ne_box (by omega))
   replace x_s := x_s.gr hgr (ne_box (by omega))
   replace z_s := z_s.gr hgr
   replace z_t := z_t.gr hgr
   replace ze1 := ze1.gr hgr
   replace hb := gr_below hb hb.size hgr (by omega)
   clear q_t
   clear q_s
   generalize wc = v33 at *
   have x_t := x_N; clear x_N hgr
   have q_s := x_s.al
   have q_t := x_t.al
   clear e0_1 e1_1
   go_wp2_with fail
   go_roundw
   case rel => exact ⟨k + 1, by omega, by go_num, hb, x_r, x_p, ⟨_, _, _, by rw [ES1.out]; exact x_s, by rw [ES1.out]; exact z_s⟩, ⟨_, _, _, by rw [ET1.out]; exact x_t, by rw [ET1.out]; exact z_N32⟩⟩
   case measure => simp [intOf]; omega
  ·have h2 := tmod_odd hk3
   obtain ⟨Fk, hF⟩ : ∃ e, f k = e := ⟨_, rfl⟩; obtain ⟨Gk, hG⟩ : ∃ e, g k = e := ⟨_, rfl⟩
   obtain ⟨T1, hT1⟩ : ∃ e, altI g f (k + 1) = e := ⟨_, rfl⟩
   have HT1 : Hid (T - Fk = T1) := Lib.hid (by rw [← hT, ← hF, ← hT1, alt_odd1 hk3])
   have ET1 := Lib.hid hT1
   have B2 : Hid (Si T1 20) := Lib.hid (by rw [← hT1]; exact BT.out _ (by omega))
   obtain ⟨S1, hS1⟩ : ∃ e, altI f g (min (k + 1) (L - 1)) = e := ⟨_, rfl⟩
   have HS1 : Hid (S - Gk = S1) := Lib.hid (by rw [← hS, ← hG, ← hS1, Nat.min_eq_left (by omega), Nat.min_eq_left (by omega), alt_odd1 hk3])
   have ES1 := Lib.hid hS1
   have B1 : Hid (Si S1 20) := Lib.hid (by rw [← hS1]; exact BS.out _ (by omega))
   have HF := Lib.hid hF; have HG := Lib.hid hG; clear hS hT hT1 hF hG hS1
   have q_s := x_s.al
   have q_t := x_t.al
   have w1 : IntKind.i64.wrap ((L : Int) - 1) = (L : Int) - 1 := wrapR (by omega) (by omega)
   obtain ⟨Ae1, ne1, ce1, e0_1, e1_1, ze1⟩ := (HA.out.keep hla hb) k (by omega)
   rw [HF.out] at e0_1 ze1
   go_upto_region 10 with fail
   have hv := Below.refl wr.heap.size wr
   go_cut [42] (fun _ wx => StB wr (g4) T1 wx)
   case first =>
    go_region_law (first | (go_simp; go_at_call 49; (with_reducible refine (RSubZ_any z_t.drw.zr ze1.drw.zr 21 (by omega) (by omega) (by omega)).mono ?_); rintro e v31 ⟨A21, n21, c21, rfl, z21, hb1⟩; replace hb1 := undrew hb1; replace hv := bthen hv hb1; obtain ⟨x_r, x_p, x_s, x_t, z_s, z_t, ze1⟩ := mv7 hb1 x_r x_p x_s x_t z_s z_t ze1; replace hb := bthen hb hb1; clear hb1; replace q_s := x_s.al; replace q_t := x_t.al; rw [HT1.out] at z21 ⊢; replace z21 := z21.slim B2.out))
    all_goals go_wp2_with fail
    all_goals go_meet
    all_goals exact StB.put hv x_t z21
   obtain ⟨Ax32, nx32, cx32, x_N, z_N32, hgr⟩ := hcut
   clear hv x_t
   replace x_r := x_r.gr hgr (ne_box (by omega))
   replace x_p := x_p.gr hgr (ne_box (by omega))
   replace x_s := x_s.gr hgr (ne_box (by omega))
   replace z_s := z_s.gr hgr
   replace z_t := z_t.gr hgr
   replace ze1 := ze1.gr hgr
   replace hb := gr_below hb hb.size hgr (by omega)
   clear q_t
   clear q_s
   generalize wc = v33 at *
   have x_t := x_N; clear x_N hgr
   have q_s := x_s.al
   have q_t := x_t.al
   clear e0_1 e1_1
   obtain ⟨Ae2, ne2, ce2, e0_2, e1_2, ze2⟩ := (HB.out.keep hlb hb) k (by omega)
   rw [HG.out] at e0_2 ze2
   go_upto_region 11 with fail
   go_region_law (first | (go_simp; go_at_call 49; (with_reducible refine (RSubZ_any z_s.drw.zr ze2.drw.zr 21 (by omega) (by omega) (by omega)).mono ?_); rintro e v34 ⟨A22, n22, c22, rfl, z22, hb1⟩; replace hb1 := undrew hb1; obtain ⟨x_r, x_p, x_s, x_t, z_s, z_t, ze1, z_N32, ze2⟩ := mv9 hb1 x_r x_p x_s x_t z_s z_t ze1 z_N32 ze2; replace hb := bthen hb hb1; clear hb1; replace q_s := x_s.al; replace q_t := x_t.al; rw [HS1.out] at z22 ⊢; replace z22 := z22.slim B1.out))
   all_goals
    replace x_r := x_r.aside (b' := (ngB S1)) (A' := A22) (n' := n22) (c' := c22) (g := g3) (by omega)
    replace x_p := x_p.aside (b' := (ngB S1)) (A' := A22) (n' := n22) (c' := c22) (g := g3) (by omega)
    replace x_t := x_t.aside (b' := (ngB S1)) (A' := A22) (n' := n22) (c' := c22) (g := g3) (by omega)
    replace z_s := z_s.put (b' := (ngB S1)) (A' := A22) (n' := n22) (c' := c22) x_s
    replace z_t := z_t.put (b' := (ngB S1)) (A' := A22) (n' := n22) (c' := c22) x_s
    replace ze1 := ze1.put (b' := (ngB S1)) (A' := A22) (n' := n22) (c' := c22) x_s
    replace z_N32 := z_N32.put (b' := (ngB S1)) (A' := A22) (n' := n22) (c' := c22) x_s
    replace ze2 := ze2.put (b' := (ngB S1)) (A' := A22) (n' := n22) (c' := c22) x_s
    replace z22 := z22.put (b' := (ngB S1)) (A' := A22) (n' := n22) (c' := c22) x_s
    replace hb := put_below (g := g3) hb (by omega) (.bool (ngB S1)) (.slice A22 n22 c22)
    replace x_s := x_s.put (ngB S1) A22 n22 c22
    clear q_s q_t
    generalize (v34.setCell ⟨g3, 0, none⟩ (.bool (ngB S1))).setCell ⟨g3, 1, none⟩ (.slice A22 n22 c22) = v35 at *
    have q_s := x_s.al
    have q_t := x_t.al
    clear e0_2 e1_2
    go_wp2_with fail
    go_roundw
    case rel => exact ⟨k + 1, by omega, by go_num, hb, x_r, x_p, ⟨_, _, _, by rw [ES1.out]; exact x_s, by rw [ES1.out]; exact z22⟩, ⟨_, _, _, by rw [ET1.out]; exact x_t, by rw [ET1.out]; exact z_N32⟩⟩
    case measure => simp [intOf]; omega

end Go.Proofs.YtiikmjnnlckiiaaGreat
