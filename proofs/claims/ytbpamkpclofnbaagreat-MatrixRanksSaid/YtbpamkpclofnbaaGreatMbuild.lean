/-
  matrix: build.
-/
import Derived.Test.YtbpamkpclofnbaaGreatVpush
import Derived.Test.YtbpamkpclofnbaaGreatPe
namespace Go.Proofs.YtbpamkpclofnbaaGreat
open Go.RowKit
open MP.Se (nf co)
set_option linter.unusedVariables false
set_option maxRecDepth 100000

theorem dg_same {X Y : Int} (hs : ngB X = ngB Y) (h : dg Wd X.natAbs = dg Wd Y.natAbs) : X = Y := by
  have h1 : X.natAbs = Y.natAbs := by rw [← vl_dg Wd2 (n := X.natAbs), h, vl_dg Wd2]
  simp only [ngB, decide_eq_decide] at hs
  omega
theorem RExact_any {A A2 : Option Addr} {n c n2 c2 J J2 : Nat} {X Y : Int} {w : World} (z : Zn w A n c X J) (z2 : Zn w A2 n2 c2 Y J2) :
    Calls Tryz.prog 15 #[.agg #[.bool (ngB X), .slice A n c], .agg #[.bool (ngB Y), .slice A2 n2 c2]] w fun e w' => e = .returned (.bool (decide (X = Y))) ∧ Below w.heap.size w w' := by
  have hl := z.1.len; have hl2 := z2.1.len
  have hbg := z.1.big; have hbg2 := z2.1.big
  obtain ⟨β, hβ⟩ : ∃ β, decide (X = Y) = β := ⟨_, rfl⟩
  have HB := Lib.hid hβ
  rw [hβ]
  by_cases hs : ngB X = ngB Y
  · by_cases hn : n = n2
    · subst hn
      have hend : Hid (dg Wd X.natAbs = dg Wd Y.natAbs → β = true) := Lib.hid fun h => by rw [← hβ, decide_eq_true_eq]; exact dg_same hs h
      have hne : Hid (∀ i (h1 : i < (dg Wd X.natAbs).length) (h2 : i < (dg Wd Y.natAbs).length), (dg Wd X.natAbs)[i] ≠ (dg Wd Y.natAbs)[i] → β = false) := Lib.hid fun i h1 h2 h => by
        rw [← hβ, decide_eq_false_iff_not]; intro e; subst e; exact h rfl
      rw [hs]
      have g := z.1; have g2 := z2.1
      generalize dg Wd X.natAbs = lx at *
      generalize dg Wd Y.natAbs = ly at *
      generalize ngB Y = b at *
      have HL := Lib.hid hl; have HL2 := Lib.hid hl2
      have G := Lib.hid g; have G2 := Lib.hid g2
      clear z z2 hβ hs hl hl2 HB g g2
      go_enter Tryz.func15, Tryz.ntmps15
      go_upto_region 1 with fail
      refine al2 fun v1 hb x_a x_b => ?_
      replace x_a := Bx.of x_a; replace x_b := Bx.of x_b
      have q_a := x_a.al; have q_b := x_b.al
      go_wp2_with fail
      clear q_a q_b
      go_loopw [5] (fun kv wr => ∃ i : Nat, i ≤ n ∧ kv = .int .i64 (i : Int) ∧ Hid (∀ j (h1 : j < lx.length) (h2 : j < ly.length), j < i → lx[j] = ly[j]) ∧ Below v1.heap.size v1 wr) (fun kv _ => n - (intOf kv).toNat)
      case atStart => exact ⟨0, by omega, rfl, Lib.hid fun _ _ _ h => absurd h (by omega), Below.refl _ _⟩
      case round =>
        obtain ⟨i, hi, rfl, heq, hb1⟩ := hrel
        have x_a' := x_a.keep hb1; have x_b' := x_b.keep hb1
        have q_a := x_a'.al; have q_b := x_b'.al
        have hbb := bthen hb hb1
        rcases (show n = i ∨ i < n by omega) with hin | hin
        · subst hin
          have hte : Hid (β = true) := Lib.hid (hend.out (List.ext_getElem (by rw [HL.out, HL2.out]) fun j h1 h2 => heq.out j h1 h2 (by have := HL.out; omega)))
          clear heq
          go_wp2
          go_ret
          exact ⟨by rw [hte.out]; rfl, hbb⟩
        · have g := (G.out.below (hb.mono (Nat.le_refl _))).below (hb1.mono hb.size); have g2 := (G2.out.below (hb.mono (Nat.le_refl _))).below (hb1.mono hb.size)
          obtain ⟨d, o, rfl, hd, hc⟩ := g.at_ (by omega)
          obtain ⟨d2, o2, rfl, hd2, hc2⟩ := g2.at_ (by omega)
          have hi1 : i < lx.length := by have := HL.out; omega
          have hi2 : i < ly.length := by have := HL2.out; omega
          have cx := hc i hi1; have cy := hc2 i hi2
          have hnx := hne.out i hi1 hi2
          have hnxt : Hid (lx[i] = ly[i] → ∀ j (h1 : j < lx.length) (h2 : j < ly.length), j < i + 1 → lx[j] = ly[j]) := Lib.hid fun e j h1 h2 hj => by
            rcases (show j < i ∨ j = i by omega) with h | h
            · exact heq.out j h1 h2 h
            · subst h; exact e
          have HNX := Lib.hid hnx
          clear hc hc2 hnx heq g g2
          generalize lx[i] = x at *
          generalize ly[i] = y at *
          by_cases hxy : x = y
          · have hq := Lib.hid (hnxt.out hxy)
            subst hxy
            clear hnxt HNX
            go_upto_region 6 with fail
            go_region_held3 (fun w' => w'.cell? ⟨w.heap.size, 1, none⟩ = some (.slice (some ⟨d, o, none⟩) n c) ∧ w'.cell? ⟨w.heap.size + 1, 1, none⟩ = some (.slice (some ⟨d2, o2, none⟩) n c2) ∧ w'.cell? ⟨d, o + i, none⟩ = some (.int .u64 x) ∧ w'.cell? ⟨d2, o2 + i, none⟩ = some (.int .u64 x))
              (first | (with_reducible exact ⟨x_a'.c1, x_b'.c1, cx, cy⟩) | go_keep)
              (fail)
            all_goals go_wp2
            exact ⟨⟨i + 1, by omega, by go_num, hq, below_drew hb1⟩, by simp [intOf]; omega⟩
          · have hf : Hid (β = false) := Lib.hid (HNX.out hxy)
            have hxy2 : (x == y) = false := by simpa using hxy
            clear hnxt HNX
            go_upto_region 6 with fail
            go_region_held3 (fun w' => w'.cell? ⟨w.heap.size, 1, none⟩ = some (.slice (some ⟨d, o, none⟩) n c) ∧ w'.cell? ⟨w.heap.size + 1, 1, none⟩ = some (.slice (some ⟨d2, o2, none⟩) n c2) ∧ w'.cell? ⟨d, o + i, none⟩ = some (.int .u64 x) ∧ w'.cell? ⟨d2, o2 + i, none⟩ = some (.int .u64 y))
              (first | (with_reducible exact ⟨x_a'.c1, x_b'.c1, cx, cy⟩) | go_keep)
              (fail)
            all_goals go_wp2
            all_goals go_ret
            all_goals exact ⟨by rw [hf.out]; rfl, below_drew hbb⟩
    · have hf : Hid (β = false) := Lib.hid (by rw [← hβ, decide_eq_false_iff_not]; intro e; subst e; exact hn (hl.symm.trans hl2))
      have hnn : ((n : Int) == n2) = false := by simp; omega
      clear z z2 hβ HB hl hl2 hn
      rw [hs]
      generalize ngB Y = b at *
      clear hs
      go_enter Tryz.func15, Tryz.ntmps15
      go_upto_region 1 with fail
      refine al2 fun v1 hb x_a x_b => ?_
      replace x_a := Bx.of x_a; replace x_b := Bx.of x_b
      have q_a := x_a.al; have q_b := x_b.al
      go_wp2
      go_ret
      exact ⟨by rw [hf.out]; rfl, hb⟩
  · have hf : Hid (β = false) := Lib.hid (by rw [← hβ, decide_eq_false_iff_not]; intro e; exact hs (by rw [e]))
    have hnn : (ngB X == ngB Y) = false := by simpa using hs
    clear z z2 hβ HB hl hl2 hs
    generalize ngB X = b1 at *
    generalize ngB Y = b2 at *
    go_enter Tryz.func15, Tryz.ntmps15
    go_upto_region 1 with fail
    refine al2 fun v1 hb x_a x_b => ?_
    replace x_a := Bx.of x_a; replace x_b := Bx.of x_b
    have q_a := x_a.al; have q_b := x_b.al
    go_wp2
    go_ret
    exact ⟨by rw [hf.out]; rfl, hb⟩
/-- The slice '.slice A n c' of integers in normal form reads as l. -/
def Pn (w : World) (A : Option Addr) (n c : Nat) (l : List Int) (J : Nat) : Prop :=
  l.length = n ∧ n ≤ c ∧ n ≤ 100000 ∧ (0 < n → ∃ d o, A = some ⟨d, o, none⟩ ∧ d < w.heap.size ∧ ∀ k (hk : k < l.length), ∃ A' m c', w.cell? ⟨d, o + k * 2, none⟩ = some (.bool (ngB l[k])) ∧ w.cell? ⟨d, o + k * 2 + 1, none⟩ = some (.slice A' m c') ∧ Zn w A' m c' l[k] J)
section
variable {w v W : World} {g B n c J K : Nat} {A : Option Addr} {l : List Int} {s : Value}
theorem Pn.len (p : Pn w A n c l J) : l.length = n := p.1
theorem Pn.big (p : Pn w A n c l J) : n ≤ 100000 := p.2.2.1
theorem Pn.pd (p : Pn w A n c l J) : Pd w w.heap.size A n c l J := ⟨p.1, p.2.1, p.2.2.1, fun hn => by
  obtain ⟨d, o, e, hd, hc⟩ := p.2.2.2 hn
  refine ⟨d, o, e, hd, fun k hk => ?_⟩
  obtain ⟨A', m, c', h1, h2, z⟩ := hc k hk
  exact ⟨_, A', m, c', h1, h2, z.zr⟩⟩
theorem Pn.keep (p : Pn W A n c l J) (hb : Below W.heap.size W v) : Pn v A n c l J := ⟨p.1, p.2.1, p.2.2.1, fun hn => by
  obtain ⟨d, o, e, hd, hc⟩ := p.2.2.2 hn
  refine ⟨d, o, e, Nat.lt_of_lt_of_le hd hb.size, fun k hk => ?_⟩
  obtain ⟨A', m, c', h1, h2, z⟩ := hc k hk
  exact ⟨A', m, c', (hb.cell (p := ⟨d, o + k * 2, none⟩) hd).trans h1, (hb.cell (p := ⟨d, o + k * 2 + 1, none⟩) hd).trans h2, z.keep hb⟩⟩
instance : Mv (Pn W A n c l J) W v (Pn v A n c l J) := ⟨fun x y => x.keep y⟩
theorem Pn.ec (p : Pn w A n c l J) {k : Nat} (hk : k < n) : ∃ d o A' m c', A = some ⟨d, o, none⟩ ∧ Ec w d (o + k * 2) (ngB (l[k]'(by have := p.1; omega))) A' m c' ∧ Zn w A' m c' (l[k]'(by have := p.1; omega)) J := by
  obtain ⟨d, o, e, hd, hc⟩ := p.2.2.2 (by omega)
  obtain ⟨A', m, c', h1, h2, z⟩ := hc k (by have := p.1; omega)
  exact ⟨d, o, A', m, c', e, ⟨hd, h1, h2⟩, z⟩
theorem Pn.kto (p : Pn w A n c l J) (hK : J ≤ K) : Pn w A n c l K := ⟨p.1, p.2.1, p.2.2.1, fun hn => by
  obtain ⟨d, o, e, hd, hc⟩ := p.2.2.2 hn
  refine ⟨d, o, e, hd, fun k hk => ?_⟩
  obtain ⟨A', m, c', h1, h2, z⟩ := hc k hk
  exact ⟨A', m, c', h1, h2, z.kto hK⟩⟩
theorem Po.pn (p : Po w B A n c l J) : Pn w A n c l J := by
  rcases p with ⟨rfl, rfl, rfl, rfl⟩ | ⟨g, L, rfl, hg, rfl, hn, hp, rfl⟩
  · exact ⟨rfl, Nat.le_refl _, by omega, fun h => absurd h (by omega)⟩
  · refine ⟨by simp; omega, hn, by have := hp.len; omega, fun h0 => ⟨g, 0, rfl, hp.lt, fun k hk => ?_⟩⟩
    have hk2 : k < n ∧ k < L.length := by rw [List.length_take] at hk; omega
    obtain ⟨A, m, c, a1, a2, a3⟩ := hp.cells hk2.2
    rw [List.getElem_take, Nat.zero_add]
    exact ⟨A, m, c, a1, a2, a3⟩
theorem Gz.cz {J : Nat} : ∀ {l : List Int} {xs : List Value}, Cz w J xs l → xs.length = l.length * 2 ∧ ∀ k (hk : k < l.length), ∃ A n c, xs[k * 2]? = some (.bool (ngB l[k])) ∧ xs[k * 2 + 1]? = some (.slice A n c) ∧ Zn w A n c l[k] J
  | [], xs, h => by
    have e : xs = [] := h
    subst e
    exact ⟨rfl, fun k hk => absurd hk (by simp)⟩
  | X :: l, xs, h => by
    obtain ⟨A, n, c, ys, rfl, z, hc⟩ := h
    obtain ⟨h1, h2⟩ := Gz.cz hc
    refine ⟨by simp [h1]; omega, fun k hk => ?_⟩
    rcases k with _ | k
    · exact ⟨A, n, c, rfl, rfl, z⟩
    · obtain ⟨A', m, c', a1, a2, a3⟩ := h2 k (by simpa using hk)
      refine ⟨A', m, c', ?_, ?_, a3⟩
      · rw [show (k + 1) * 2 = k * 2 + 1 + 1 by omega]; exact a1
      · rw [show (k + 1) * 2 + 1 = k * 2 + 1 + 1 + 1 by omega]; exact a2
theorem Gz.pn (p : Gz w B J s l) (hl : l.length ≤ 100000) : ∃ A c, s = .slice A l.length c ∧ Pn w A l.length c l J := by
  rcases p with ⟨rfl, rfl⟩ | ⟨g, cap, xs, rfl, _, ho, hc⟩
  · exact ⟨none, 0, rfl, rfl, Nat.le_refl _, by simp, fun h => absurd h (by simp)⟩
  · have hlt := ho.lt
    obtain ⟨cur, h1, h2, h3, h4, h5, h6, h7⟩ := ho
    obtain ⟨_, hz⟩ := Gz.cz hc
    refine ⟨_, cap, rfl, rfl, h2, hl, fun _ => ⟨g, 0, rfl, hlt, fun k hk => ?_⟩⟩
    obtain ⟨A, m, c, a1, a2, a3⟩ := hz k hk
    have hrow : ∀ i, i < l.length * 2 → w.cell? ⟨g, i, none⟩ = xs[i]? := fun i hi => by
      rw [cell_of_row w g i cur _ (0, 0) h1, ← h5, List.getElem?_take, if_pos hi]; simp
    rw [Nat.zero_add]
    exact ⟨A, m, c, by rw [hrow _ (by omega)]; exact a1, by rw [hrow _ (by omega)]; exact a2, a3⟩
end
theorem Zn.drw' {w : World} {A : Option Addr} {n c k : Nat} {X : Int} (h : Zn w A n c X k) : Zn w.drew A n c X k := h
theorem RExactAll_any {A A2 : Option Addr} {n c n2 c2 J J2 : Nat} {l l2 : List Int} {w : World} (p : Pn w A n c l J) (p2 : Pn w A2 n2 c2 l2 J2) :
    Calls Tryz.prog 44 #[.slice A n c, .slice A2 n2 c2] w fun e w' => e = .returned (.bool (decide (l = l2))) ∧ Below w.heap.size w w' := by
  have hl := p.len; have hl2 := p2.len
  have hbg := p.big; have hbg2 := p2.big
  obtain ⟨β, hβ⟩ : ∃ β, decide (l = l2) = β := ⟨_, rfl⟩
  rw [hβ]
  by_cases hn : n = n2
  · subst hn
    have hend : Hid (l = l2 → β = true) := Lib.hid fun h => by rw [← hβ, decide_eq_true_eq]; exact h
    have hne : Hid (∀ i (h1 : i < l.length) (h2 : i < l2.length), l[i] ≠ l2[i] → β = false) := Lib.hid fun i h1 h2 h => by
      rw [← hβ, decide_eq_false_iff_not]; intro e; subst e; exact h rfl
    have HL := Lib.hid hl; have HL2 := Lib.hid hl2
    have G := Lib.hid p; have G2 := Lib.hid p2
    clear hβ hl hl2 p p2
    go_enter Tryz.func44, Tryz.ntmps44
    go_wp2_with fail
    go_loopw [5] (fun kv wr => ∃ i : Nat, i ≤ n ∧ kv = .int .i64 (i : Int) ∧ Hid (∀ j (h1 : j < l.length) (h2 : j < l2.length), j < i → l[j] = l2[j]) ∧ Below w.heap.size w wr) (fun kv _ => n - (intOf kv).toNat)
    case atStart => exact ⟨0, by omega, rfl, Lib.hid fun _ _ _ h => absurd h (by omega), Below.refl _ _⟩
    case round =>
      obtain ⟨i, hi, rfl, heq, hb⟩ := hrel
      rcases (show n = i ∨ i < n by omega) with hin | hin
      · subst hin
        have hte : Hid (β = true) := Lib.hid (hend.out (List.ext_getElem (by rw [HL.out, HL2.out]) fun j h1 h2 => heq.out j h1 h2 (by have := HL.out; omega)))
        clear heq
        go_wp2
        go_ret
        exact ⟨by rw [hte.out]; rfl, hb⟩
      · have hi1 : i < l.length := by have := HL.out; omega
        have hi2 : i < l2.length := by have := HL2.out; omega
        obtain ⟨d, o, A5, n5, c5, rfl, x_e, z⟩ := (G.out.keep hb).ec hin
        obtain ⟨d2, o2, A6, n6, c6, rfl, x_f, z2⟩ := (G2.out.keep hb).ec hin
        have HNX := Lib.hid (hne.out i hi1 hi2)
        have hnxt : Hid (l[i] = l2[i] → ∀ j (h1 : j < l.length) (h2 : j < l2.length), j < i + 1 → l[j] = l2[j]) := Lib.hid fun e j h1 h2 hj => by
          rcases (show j < i ∨ j = i by omega) with h | h
          · exact heq.out j h1 h2 h
          · subst h; exact e
        clear heq
        generalize l[i] = x at *
        generalize l2[i] = y at *
        have q_e := x_e.al; have q_f := x_f.al
        go_upto_region 6 with fail
        go_region_held3 (fun w' => w'.cell? ⟨d, o + i * 2, none⟩ = some (.bool (ngB x)) ∧ w'.cell? ⟨d, o + i * 2 + 1, none⟩ = some (.slice A5 n5 c5) ∧ w'.cell? ⟨d2, o2 + i * 2, none⟩ = some (.bool (ngB y)) ∧ w'.cell? ⟨d2, o2 + i * 2 + 1, none⟩ = some (.slice A6 n6 c6))
          (first | (with_reducible exact ⟨x_e.c0, x_e.c1, x_f.c0, x_f.c1⟩) | go_keep)
          (first | (go_at_call 15; (with_reducible refine (RExact_any (Zn.drw' z) (Zn.drw' z2)).mono ?_); rintro e v2 ⟨rfl, hb1⟩; replace hb1 := undrew hb1; replace x_e := x_e.keep hb1; replace x_f := x_f.keep hb1; replace hb := bthen hb hb1; clear hb1; replace q_e := x_e.al; replace q_f := x_f.al))
        by_cases hxy : x = y
        · have hq := Lib.hid (hnxt.out hxy)
          have hd9 : decide (x = y) = true := by simpa using hxy
          rw [hd9]
          clear hnxt HNX x_e x_f q_e q_f z z2 hd9 hxy
          go_wp2
          exact ⟨⟨i + 1, by omega, by go_num, hq, hb⟩, by simp [intOf]; omega⟩
        · have hf : Hid (β = false) := Lib.hid (HNX.out hxy)
          have hd9 : decide (x = y) = false := by simpa using hxy
          rw [hd9]
          clear hnxt HNX x_e x_f q_e q_f z z2 hd9 hxy
          go_wp2
          go_ret
          exact ⟨by rw [hf.out]; rfl, hb⟩
  · have hf : Hid (β = false) := Lib.hid (by rw [← hβ, decide_eq_false_iff_not]; intro e; subst e; exact hn (hl.symm.trans hl2))
    have hnn : ((n : Int) == n2) = false := by simp; omega
    clear hβ hl hl2 hn p p2
    go_enter Tryz.func44, Tryz.ntmps44
    go_wp2
    go_ret
    exact ⟨by rw [hf.out]; rfl, Below.refl _ _⟩
/-- A slice of integers that came in, of any length. -/
def Pa (w : World) (A : Option Addr) (n c : Nat) (l : List Int) : Prop :=
  l.length = n ∧ n ≤ c ∧ n ≤ 17592186044416 ∧ (0 < n → ∃ d o, A = some ⟨d, o, none⟩ ∧ d < w.heap.size ∧ ∀ k (hk : k < l.length), El w d (o + k * 2) l[k] 17592186044416)
theorem Pa.keep {w v : World} {A : Option Addr} {n c : Nat} {l : List Int} (p : Pa w A n c l) (hb : Below w.heap.size w v) : Pa v A n c l := ⟨p.1, p.2.1, p.2.2.1, fun hn => by
  obtain ⟨d, o, e, hd, hc⟩ := p.2.2.2 hn
  exact ⟨d, o, e, Nat.lt_of_lt_of_le hd hb.size, fun k hk => (hc k hk).keep hd hb⟩⟩
instance {w v : World} {A : Option Addr} {n c : Nat} {l : List Int} : Mv (Pa w A n c l) w v (Pa v A n c l) := ⟨fun x y => x.keep y⟩
theorem RFits_any {A : Option Addr} {n c N M : Nat} {l : List Int} {w : World} (p : Pa w A n c l) (hN : N ≤ 1000) (hM : M ≤ 1000) :
    Calls Tryz.prog 39 #[.slice A n c, .int .i64 (N : Int), .int .i64 (M : Int)] w fun e w' => ∃ β, e = .returned (.bool β) ∧ (β = true → n ≤ N ∧ Pd w' w'.heap.size A n c l M) ∧ Below w.heap.size w w' := by
  have hl := p.1; have hbg := p.2.2.1
  have HL := Lib.hid hl; have H := Lib.hid p
  clear hl p
  by_cases hn : n ≤ N
  · go_enter Tryz.func39, Tryz.ntmps39
    go_wp2_with fail
    go_loopw [7] (fun kv wr => ∃ i : Nat, i ≤ n ∧ kv = .int .i64 (i : Int) ∧ Hid (∀ j (hj : j < l.length), j < i → ∀ d o, A = some ⟨d, o, none⟩ → El w d (o + j * 2) l[j] M) ∧ Below w.heap.size w wr) (fun kv _ => n - (intOf kv).toNat)
    case atStart => exact ⟨0, by omega, rfl, Lib.hid fun _ _ h => absurd h (by omega), Below.refl _ _⟩
    case round =>
      obtain ⟨i, hi, rfl, hel, hb⟩ := hrel
      rcases (show n = i ∨ i < n by omega) with hin | hin
      · subst hin
        have hpd : Hid (Pd w w.heap.size A n c l M) := Lib.hid ⟨H.out.1, H.out.2.1, by omega, fun h0 => by
          obtain ⟨d, o, e, hd, _⟩ := H.out.2.2.2 h0
          exact ⟨d, o, e, hd, fun k hk => hel.out k hk (by rw [← H.out.1]; exact hk) d o e⟩⟩
        clear hel
        go_wp2
        go_ret
        exact ⟨true, rfl, fun _ => ⟨hn, hpd.out.go hb⟩, hb⟩
      · have hil : i < l.length := by have := HL.out; omega
        obtain ⟨d, o, rfl, hd, hc⟩ := H.out.2.2.2 (by omega)
        obtain ⟨b5, A5, n5, c5, h1, h2, z⟩ := hc i hil
        have h2' := (hb.cell (p := ⟨d, o + i * 2 + 1, none⟩) hd).trans h2
        have hcap : n5 ≤ M → Hid (∀ j (hj : j < l.length), j < i + 1 → ∀ d' o', some (⟨d, o, none⟩ : Addr) = some ⟨d', o', none⟩ → El w d' (o' + j * 2) l[j] M) := fun h5 => Lib.hid fun j hj hji d' o' e => by
          rcases (show j < i ∨ j = i by omega) with h | h
          · exact hel.out j hj h d' o' e
          · subst h
            injection e with e; injection e with e1 e2; subst e1; subst e2
            obtain ⟨lz, a1, a2, a3⟩ := z
            exact ⟨b5, A5, n5, c5, h1, h2, lz, a1, a2, h5⟩
        have hc5 : n5 ≤ 17592186044416 := by obtain ⟨lz, a1, a2, a3⟩ := z; exact a3
        clear hc h1 h2 z hel
        rcases (show n5 ≤ M ∨ M < n5 by omega) with h5 | h5
        · have hnx := hcap h5
          have hgt : ¬ ((M : Int) < (n5 : Int)) := by omega
          clear hcap
          go_wp2
          exact ⟨⟨i + 1, by omega, by go_num, hnx, hb⟩, by simp [intOf]; omega⟩
        · have hgt : ((M : Int) < (n5 : Int)) := by omega
          clear hcap
          go_wp2
          go_ret
          exact ⟨false, rfl, (fun h => by cases h), hb⟩
  · have hgt : ((N : Int) < (n : Int)) := by omega
    go_enter Tryz.func39, Tryz.ntmps39
    go_wp2
    go_ret
    exact ⟨false, rfl, (fun h => by cases h), Below.refl _ _⟩
end Go.Proofs.YtbpamkpclofnbaaGreat
namespace Go.Proofs.YtbpamkpclofnbaaGreat.MD
set_option linter.unusedVariables false
set_option linter.unusedSimpArgs false
/-- The sum of the first n numbers f. -/
def sm : Nat → (Nat → Int) → Int
  | 0, _ => 0
  | n + 1, f => sm n f + f n
/-- A matrix of integers, of any size. -/
abbrev Mx := Nat → Nat → Int
/-- The sign of a place. -/
def sg (k : Nat) : Int := if k % 2 = 0 then 1 else -1
/-- All places but k, in their order. -/
def dl (k j : Nat) : Nat := if j < k then j else j + 1
/-- A matrix without a row and a column. -/
def mn (A : Mx) (i k : Nat) : Mx := fun r c => A (dl i r) (dl k c)
/-- The determinant of the first n rows and columns, by its first row. -/
def det : Nat → Mx → Int
  | 0, _ => 1
  | n + 1, A => sm (n + 1) fun k => sg k * A 0 k * det n (mn A 0 k)
/-- The matrix turned. -/
def tr (A : Mx) : Mx := fun i k => A k i
/-- A column set. -/
def sc (A : Mx) (j : Nat) (u : Nat → Int) : Mx := fun i k => if k = j then u i else A i k
/-- A row set. -/
def sr (A : Mx) (i : Nat) (u : Nat → Int) : Mx := fun r k => if r = i then u k else A r k
/-- The matrix with 1 in its diagonal. -/
def one : Mx := fun i k => if i = k then 1 else 0
theorem sm_congr {n : Nat} {f g : Nat → Int} (h : ∀ k, k < n → f k = g k) : sm n f = sm n g := by
  induction n with
  | zero => rfl
  | succ n ih => simp only [sm]; rw [ih fun k hk => h k (by omega), h n (by omega)]
theorem sm_add (n : Nat) (f g : Nat → Int) : (sm n fun k => f k + g k) = sm n f + sm n g := by
  induction n with
  | zero => rfl
  | succ n ih => simp only [sm]; rw [ih]; omega
theorem sm_mul (n : Nat) (a : Int) (f : Nat → Int) : (sm n fun k => a * f k) = a * sm n f := by
  induction n with
  | zero => simp [sm]
  | succ n ih => simp only [sm]; rw [ih, Int.mul_add]
theorem sm_mulr (n : Nat) (a : Int) (f : Nat → Int) : (sm n fun k => f k * a) = sm n f * a := by
  rw [Int.mul_comm, ← sm_mul]; exact sm_congr fun k _ => Int.mul_comm _ _
theorem sm_zero (n : Nat) : (sm n fun _ => 0) = 0 := by
  induction n with
  | zero => rfl
  | succ n ih => simp only [sm]; rw [ih]; rfl
theorem sm_nil {n : Nat} {f : Nat → Int} (h : ∀ k, k < n → f k = 0) : sm n f = 0 := by rw [sm_congr h, sm_zero]
theorem sm_one {n j : Nat} {f : Nat → Int} (hj : j < n) (h : ∀ k, k < n → k ≠ j → f k = 0) : sm n f = f j := by
  induction n with
  | zero => omega
  | succ n ih =>
    simp only [sm]
    by_cases e : j = n
    · subst e; rw [sm_nil fun k hk => h k (by omega) (by omega)]; omega
    · rw [ih (by omega) fun k hk hk2 => h k (by omega) hk2, h n (by omega) (by omega)]; omega
theorem sm_two {n j : Nat} {f : Nat → Int} (hj : j + 1 < n) (h : ∀ k, k < n → k ≠ j → k ≠ j + 1 → f k = 0) : sm n f = f j + f (j + 1) := by
  induction n with
  | zero => omega
  | succ n ih =>
    simp only [sm]
    by_cases e : j + 1 = n
    · subst e
      rw [sm_one (j := j) (by omega) fun k hk hk2 => h k (by omega) hk2 (by omega)]
    · rw [ih (by omega) fun k hk hk2 hk3 => h k (by omega) hk2 hk3, h n (by omega) (by omega) (by omega)]; omega
theorem sm_cut {n s : Nat} {f : Nat → Int} (hs : s ≤ n) (h : ∀ k, s ≤ k → k < n → f k = 0) : sm n f = sm s f := by
  induction n with
  | zero => rw [show s = 0 by omega]
  | succ n ih =>
    by_cases e : s = n + 1
    · rw [e]
    · simp only [sm]; rw [ih (by omega) fun k h1 h2 => h k h1 (by omega), h n (by omega) (by omega)]; omega
theorem sm_comm (n m : Nat) (f : Nat → Nat → Int) : (sm n fun i => sm m fun k => f i k) = sm m fun k => sm n fun i => f i k := by
  induction n with
  | zero => simp only [sm]; rw [sm_zero]
  | succ n ih => simp only [sm]; rw [ih, ← sm_add]
/-- The first one apart. -/
theorem sm_first (n : Nat) (f : Nat → Int) : sm (n + 1) f = f 0 + sm n fun k => f (k + 1) := by
  induction n with
  | zero => simp only [sm]; omega
  | succ n ih => rw [sm, ih]; simp only [sm]; omega
theorem sg_s (k : Nat) : sg (k + 1) = -sg k := by unfold sg; split <;> split <;> omega
theorem sg_0 : sg 0 = 1 := rfl
theorem sg_add (i k : Nat) : sg (i + k) = sg i * sg k := by
  induction k with
  | zero => rw [Nat.add_zero, sg_0, Int.mul_one]
  | succ k ih => rw [← Nat.add_assoc, sg_s, ih, sg_s, Int.mul_neg]
theorem sg_sq (i : Nat) : sg i * sg i = 1 := by unfold sg; split <;> rfl
theorem sg_ne (i : Nat) : sg i ≠ 0 := by unfold sg; split <;> decide
theorem dl_lt {k j : Nat} (h : j < k) : dl k j = j := if_pos h
theorem dl_ge {k j : Nat} (h : k ≤ j) : dl k j = j + 1 := if_neg (by omega)
theorem dl_ne (k j : Nat) : dl k j ≠ k := by unfold dl; split <;> omega
theorem dl_bd {k j n : Nat} (h : j < n) : dl k j < n + 1 := by unfold dl; split <;> omega
theorem dl_inj {k i j : Nat} (h : dl k i = dl k j) : i = j := by unfold dl at h; split at h <;> split at h <;> omega
theorem det_congr {n : Nat} {A B : Mx} (h : ∀ i k, i < n → k < n → A i k = B i k) : det n A = det n B := by
  induction n generalizing A B with
  | zero => rfl
  | succ n ih =>
    refine sm_congr fun k hk => ?_
    rw [h 0 k (by omega) hk, ih (A := mn A 0 k) (B := mn B 0 k) fun i c hi hc => h _ _ (dl_bd hi) (dl_bd hc)]
/-- Linear in a column. -/
theorem det_lin {n j : Nat} {A B C : Mx} {a b : Int} (hj : j < n) (h : ∀ i k, i < n → k < n → k ≠ j → A i k = C i k ∧ B i k = C i k) (h2 : ∀ i, i < n → C i j = a * A i j + b * B i j) :
    det n C = a * det n A + b * det n B := by
  induction n generalizing A B C j with
  | zero => omega
  | succ n ih =>
    simp only [det]
    rw [← sm_mul, ← sm_mul, ← sm_add]
    refine sm_congr fun k hk => ?_
    by_cases e : k = j
    · subst e
      have e1 : det n (mn A 0 k) = det n (mn C 0 k) := det_congr fun i c hi hc => (h _ _ (dl_bd hi) (dl_bd hc) (dl_ne _ _)).1
      have e2 : det n (mn B 0 k) = det n (mn C 0 k) := det_congr fun i c hi hc => (h _ _ (dl_bd hi) (dl_bd hc) (dl_ne _ _)).2
      rw [e1, e2, h2 0 (by omega)]
      grind
    · obtain ⟨j', hj', e'⟩ : ∃ j', j' < n ∧ dl k j' = j := by
        by_cases h3 : j < k
        · exact ⟨j, by omega, dl_lt h3⟩
        · exact ⟨j - 1, by omega, by rw [dl_ge (by omega)]; omega⟩
      have := ih (A := mn A 0 k) (B := mn B 0 k) (C := mn C 0 k) hj' (fun i c hi hc hcj => h _ _ (dl_bd hi) (dl_bd hc) fun e3 => hcj (dl_inj (e3.trans e'.symm))) (fun i hi => by
        simp only [mn]; rw [e']; exact h2 _ (dl_bd hi))
      rw [this, (h 0 k (by omega) hk e).1, (h 0 k (by omega) hk e).2]
      grind
/-- Two columns side by side that are the same. -/
theorem det_adj {n j : Nat} {A : Mx} (hj : j + 1 < n) (h : ∀ i, i < n → A i j = A i (j + 1)) : det n A = 0 := by
  induction n generalizing A j with
  | zero => omega
  | succ n ih =>
    simp only [det]
    rw [sm_two hj]
    · have e1 : det n (mn A 0 j) = det n (mn A 0 (j + 1)) := det_congr fun i c hi hc => by
        simp only [mn]
        by_cases e : c = j
        · subst e; rw [dl_ge (Nat.le_refl _), dl_lt (Nat.lt_succ_self _)]; exact (h _ (dl_bd hi)).symm
        · congr 1; unfold dl; split <;> split <;> omega
      rw [e1, h 0 (by omega), sg_s]
      grind
    · intro k hk h1 h2
      have : det n (mn A 0 k) = 0 := by
        by_cases h3 : j + 1 < k
        · exact ih (j := j) (by omega) fun i hi => by
            simp only [mn]; rw [dl_lt (k := k) (j := j) (by omega), dl_lt (k := k) (j := j + 1) h3]; exact h _ (dl_bd hi)
        · exact ih (j := j - 1) (by omega) fun i hi => by
            simp only [mn]; rw [dl_ge (k := k) (j := j - 1) (by omega), dl_ge (k := k) (j := j - 1 + 1) (by omega), show j - 1 + 1 = j by omega]; exact h _ (dl_bd hi)
      rw [this, Int.mul_zero]
/-- A function of the first n rows that is linear in each of them, and 0 where two side by side are the same. -/
structure Alt (n : Nat) (F : Mx → Int) : Prop where
  congr : ∀ A B : Mx, (∀ i k, i < n → k < n → A i k = B i k) → F A = F B
  lin : ∀ (i : Nat) (A B C : Mx) (a b : Int), i < n → (∀ r k, r < n → k < n → r ≠ i → A r k = C r k ∧ B r k = C r k) → (∀ k, k < n → C i k = a * A i k + b * B i k) → F C = a * F A + b * F B
  adj : ∀ (i : Nat) (A : Mx), i + 1 < n → (∀ k, k < n → A i k = A (i + 1) k) → F A = 0
/-- Two rows changed about. -/
def sw (A : Mx) (i k : Nat) : Mx := fun r c => if r = i then A k c else if r = k then A i c else A r c
section
variable {n : Nat} {F : Mx → Int} (T : Alt n F)
include T
theorem Alt.sum2 {i k : Nat} (hi : i < n) (hk : k < n) (hik : i ≠ k) (hz : ∀ A : Mx, (∀ c, c < n → A i c = A k c) → F A = 0) (A : Mx) : F (sw A i k) = -F A := by
  let P : (Nat → Int) → (Nat → Int) → Int := fun u v => F (sr (sr A i u) k v)
  have hPl : ∀ u u' v, P (fun c => u c + u' c) v = P u v + P u' v := fun u u' v => by
    have := T.lin i (sr (sr A i u) k v) (sr (sr A i u') k v) (sr (sr A i fun c => u c + u' c) k v) 1 1 hi (fun r c _ _ hr => by simp [sr, hr]) (fun c _ => by simp [sr, hik])
    simp only [Int.one_mul] at this
    exact this
  have hPr : ∀ u v v', P u (fun c => v c + v' c) = P u v + P u v' := fun u v v' => by
    have := T.lin k (sr (sr A i u) k v) (sr (sr A i u) k v') (sr (sr A i u) k fun c => v c + v' c) 1 1 hk (fun r c _ _ hr => by simp [sr, hr]) (fun c _ => by simp [sr])
    simp only [Int.one_mul] at this
    exact this
  have h0 : ∀ u, P u u = 0 := fun u => hz _ fun c _ => by simp [sr, hik]
  have e1 : F A = P (A i) (A k) := T.congr _ _ fun r c _ _ => by simp only [sr]; split <;> (try split) <;> simp_all
  have e2 : F (sw A i k) = P (A k) (A i) := T.congr _ _ fun r c _ _ => by
    simp only [sr, sw]
    by_cases h1 : r = k
    · subst h1; simp [Ne.symm hik]
    · by_cases h2 : r = i
      · subst h2; simp [hik]
      · simp [h1, h2]
  have e3 := h0 fun c => A i c + A k c
  rw [hPl, hPr, hPr, h0, h0] at e3
  rw [e1, e2]; omega
theorem Alt.same {i k : Nat} (hik : i < k) (hk : k < n) {A : Mx} (h : ∀ c, c < n → A i c = A k c) : F A = 0 := by
  induction k generalizing A with
  | zero => omega
  | succ k ih =>
    by_cases e : i = k
    · subst e; exact T.adj i A hk h
    · have h2 := T.sum2 (i := k) (k := k + 1) (by omega) hk (by omega) (fun B hB => T.adj k B hk hB) A
      have h3 := ih (A := sw A k (k + 1)) (by omega) (by omega) fun c hc => by simp [sw, e, show i ≠ k + 1 by omega]; exact h c hc
      omega
theorem Alt.eq {i k : Nat} (hik : i ≠ k) (hi : i < n) (hk : k < n) {A : Mx} (h : ∀ c, c < n → A i c = A k c) : F A = 0 := by
  rcases Nat.lt_or_gt_of_ne hik with h1 | h1
  · exact T.same h1 hk h
  · exact T.same h1 hi fun c hc => (h c hc).symm
theorem Alt.swap {i k : Nat} (hik : i ≠ k) (hi : i < n) (hk : k < n) (A : Mx) : F (sw A i k) = -F A := T.sum2 hi hk hik (fun B hB => T.eq hik hi hk hB) A
/-- A row of noughts. -/
theorem Alt.null {i : Nat} (hi : i < n) {A : Mx} (h : ∀ c, c < n → A i c = 0) : F A = 0 := by
  have := T.lin i A A A 0 0 hi (fun _ _ _ _ _ => ⟨rfl, rfl⟩) (fun c hc => by rw [h c hc]; rfl)
  simpa using this
theorem Alt.scale {i : Nat} (hi : i < n) (A : Mx) (a : Int) : F (sr A i fun c => a * A i c) = a * F A := by
  have := T.lin i A A (sr A i fun c => a * A i c) a 0 hi (fun r c _ _ hr => by simp [sr, hr]) (fun c hc => by simp [sr])
  simpa using this
/-- A multiple of one row more in another one. -/
theorem Alt.more {i k : Nat} (hik : i ≠ k) (hi : i < n) (hk : k < n) (A : Mx) (a : Int) : F (sr A i fun c => A i c + a * A k c) = F A := by
  have := T.lin i A (sr A i (A k)) (sr A i fun c => A i c + a * A k c) 1 a hi (fun r c _ _ hr => by simp [sr, hr]) (fun c hc => by simp [sr])
  rw [this, T.eq (A := sr A i (A k)) hik hi hk fun c hc => by simp [sr, Ne.symm hik]]
  omega
/-- A row that is a sum. -/
theorem Alt.sum {i : Nat} (hi : i < n) (A : Mx) (m : Nat) (a : Nat → Int) (u : Nat → Nat → Int) : F (sr A i fun c => sm m fun k => a k * u k c) = sm m fun k => a k * F (sr A i (u k)) := by
  induction m with
  | zero => simp only [sm]; exact T.null hi fun c _ => by simp [sr]
  | succ m ih =>
    simp only [sm]
    rw [← ih]
    have := T.lin i (sr A i fun c => sm m fun k => a k * u k c) (sr A i (u m)) (sr A i fun c => (sm m fun k => a k * u k c) + a m * u m c) 1 (a m) hi (fun r c _ _ hr => by simp [sr, hr]) (fun c hc => by simp [sr])
    rw [this]; omega
end
end Go.Proofs.YtbpamkpclofnbaaGreat.MD
namespace Go.Proofs.YtbpamkpclofnbaaGreat.MD
set_option linter.unusedVariables false
set_option linter.unusedSimpArgs false
/-- A smaller matrix with a row ahead that has its 1 in column k, and that column besides. -/
def emb (k : Nat) (M : Mx) : Mx := fun i j => match i with
  | 0 => if j = k then 1 else 0
  | i + 1 => if j = k then 0 else M i (if j < k then j else j - 1)
theorem Alt.emb {n k : Nat} {F : Mx → Int} (T : Alt (n + 1) F) (hk : k < n + 1) : Alt n fun M => F (emb k M) where
  congr A B h := T.congr _ _ fun i j hi hj => by
    cases i with
    | zero => rfl
    | succ i =>
      simp only [MD.emb]
      split
      · rfl
      · exact h _ _ (by omega) (by split <;> omega)
  lin i A B C a b hi h h2 := T.lin (i + 1) _ _ _ a b (by omega) (fun r j hr hj hri => by
      cases r with
      | zero => exact ⟨rfl, rfl⟩
      | succ r =>
        simp only [MD.emb]
        split
        · exact ⟨rfl, rfl⟩
        · exact h _ _ (by omega) (by split <;> omega) (by omega)) (fun j hj => by
      simp only [MD.emb]
      by_cases e : j = k
      · rw [if_pos e, if_pos e, if_pos e]; simp
      · rw [if_neg e, if_neg e, if_neg e]; exact h2 _ (by split <;> omega))
  adj i A hi h := T.adj (i + 1) _ (by omega) fun j hj => by
      simp only [MD.emb]
      by_cases e : j = k
      · rw [if_pos e, if_pos e]
      · rw [if_neg e, if_neg e]; exact h _ (by split <;> omega)
theorem Alt.emb_one {n : Nat} {F : Mx → Int} (T : Alt (n + 1) F) : ∀ {k : Nat}, k < n + 1 → F (MD.emb k one) = sg k * F one
  | 0, hk => by
    rw [sg_0, Int.one_mul]
    refine T.congr _ _ fun i j hi hj => ?_
    cases i with
    | zero => cases j <;> simp [MD.emb, one]
    | succ i => cases j <;> simp [MD.emb, one]
  | k + 1, hk => by
    have h := Alt.emb_one T (k := k) (by omega)
    have h2 := T.swap (i := 0) (k := k + 1) (by omega) (by omega) hk (MD.emb k one)
    have h3 : F (MD.emb (k + 1) one) = F (sw (MD.emb k one) 0 (k + 1)) := T.congr _ _ fun i j hi hj => by
      cases i with
      | zero => simp only [sw, MD.emb, one, if_true]; grind
      | succ i => simp only [sw, MD.emb, one, Nat.succ_ne_zero, if_false]; grind
    rw [h3, h2, h, sg_s]
    grind
/-- A column is cleared by the row ahead. -/
theorem Alt.clear {n k : Nat} {F : Mx → Int} (T : Alt (n + 1) F) (hk : k < n + 1) (A : Mx) : F (sr A 0 (one k)) = F (MD.emb k (mn A 0 k)) := by
  let B : Nat → Mx := fun m i j => if i = 0 then one k j else if i ≤ m ∧ j = k then 0 else A i j
  have h0 : F (sr A 0 (one k)) = F (B 0) := T.congr _ _ fun i j hi hj => by
    simp only [sr, B]
    split
    · rfl
    · rw [if_neg (by omega)]
  have hs : ∀ m, m ≤ n → F (B m) = F (B 0) := fun m hm => by
    induction m with
    | zero => rfl
    | succ m ih =>
      rw [← ih (by omega), ← T.more (i := m + 1) (k := 0) (by omega) (by omega) (by omega) (B m) (-A (m + 1) k)]
      refine T.congr _ _ fun i j hi hj => ?_
      simp only [sr, B]
      by_cases e : i = 0
      · subst e; simp
      · by_cases e2 : i = m + 1
        · subst e2
          by_cases e3 : j = k
          · subst e3; simp [one]; omega
          · simp [e3, one, show ¬ k = j by omega]
        · simp only [e, e2, if_false]
          by_cases e3 : i ≤ m ∧ j = k
          · rw [if_pos e3, if_pos (by omega)]
          · rw [if_neg e3, if_neg (by omega)]
  rw [h0, ← hs n (Nat.le_refl _)]
  refine T.congr _ _ fun i j hi hj => ?_
  simp only [B]
  cases i with
  | zero => simp only [MD.emb, if_true, one]; congr 1; apply propext; omega
  | succ i =>
    simp only [MD.emb, Nat.succ_ne_zero, if_false, mn]
    by_cases e : j = k
    · rw [if_pos (by omega), if_pos e]
    · rw [if_neg (by omega), if_neg e, dl_ge (by omega)]
      by_cases e2 : j < k
      · rw [if_pos e2, dl_lt e2]
      · rw [if_neg e2, dl_ge (k := k) (by omega), show j - 1 + 1 = j by omega]
/-- There is but one such function, as far as it goes at the matrix of ones. -/
theorem Alt.det : ∀ {n : Nat} {F : Mx → Int}, Alt n F → ∀ A : Mx, F A = F one * det n A
  | 0, F, T, A => by rw [T.congr A one fun i k hi => by omega]; simp [MD.det]
  | n + 1, F, T, A => by
    have h1 : F A = F (sr A 0 fun c => sm (n + 1) fun k => A 0 k * one k c) := T.congr _ _ fun i c hi hc => by
      simp only [sr]
      split
      · next e =>
        subst e
        rw [sm_one (j := c) hc fun k _ hk2 => by simp [one, hk2]]
        simp [one]
      · rfl
    rw [h1, T.sum (by omega)]
    simp only [MD.det]
    rw [← sm_mul]
    refine sm_congr fun k hk => ?_
    rw [T.clear hk, Alt.det (T.emb hk), T.emb_one hk]
    grind
theorem det_one : ∀ n, det n one = 1
  | 0 => rfl
  | n + 1 => by
    simp only [det]
    rw [sm_one (j := 0) (by omega) fun k _ hk => by simp [one, Ne.symm hk]]
    rw [det_congr (B := one) fun i c hi hc => by simp [mn, dl, one], det_one n]
    simp [sg, one]
theorem alt_tr (n : Nat) : Alt n fun A => det n (tr A) where
  congr A B h := det_congr fun i k hi hk => h k i hk hi
  lin i A B C a b hi h h2 := det_lin hi (fun r k hr hk hri => h k r hk hr hri) fun k hk => h2 k hk
  adj i A hi h := det_adj hi fun k hk => h k hk
theorem det_tr (n : Nat) (A : Mx) : det n (tr A) = det n A := by
  rw [(alt_tr n).det A, det_congr (A := tr one) (B := one) fun i k _ _ => by simp [tr, one, eq_comm], det_one, Int.one_mul]
theorem alt_det (n : Nat) : Alt n (det n) := by
  have h := alt_tr n
  rwa [show (fun A => det n (tr A)) = det n from funext fun A => det_tr n A] at h
/-- The product, with m in between. -/
def mul (m : Nat) (A B : Mx) : Mx := fun i k => sm m fun j => A i j * B j k
theorem det_mul (n : Nat) (A B : Mx) : det n (mul n A B) = det n A * det n B := by
  have T : Alt n fun A => det n (mul n A B) := {
    congr := fun A A' h => det_congr fun i k hi hk => sm_congr fun j hj => by rw [h i j hi hj]
    lin := fun i A A' C a b hi h h2 => (alt_det n).lin i _ _ _ a b hi (fun r k hr hk hri => ⟨sm_congr fun j hj => by rw [(h r j hr hj hri).1], sm_congr fun j hj => by rw [(h r j hr hj hri).2]⟩) (fun k hk => by
      simp only [mul]
      rw [← sm_mul, ← sm_mul, ← sm_add]
      exact sm_congr fun j hj => by rw [h2 j hj]; grind)
    adj := fun i A hi h => (alt_det n).adj i _ hi fun k hk => sm_congr fun j hj => by rw [h j hj] }
  rw [T.det A, Int.mul_comm]
  congr 1
  refine det_congr fun i k hi hk => ?_
  simp only [mul]
  rw [sm_one (j := i) hi fun j _ hj => by simp [one, Ne.symm hj]]
  simp [one]
theorem mul_assoc (m n : Nat) (A B C : Mx) : mul n (mul m A B) C = mul m A (mul n B C) := by
  funext i k
  simp only [mul]
  have h1 : (sm n fun j => (sm m fun l => A i l * B l j) * C j k) = sm n fun j => sm m fun l => A i l * B l j * C j k := sm_congr fun j _ => (sm_mulr _ _ _).symm
  have h2 : (sm m fun l => A i l * sm n fun j => B l j * C j k) = sm m fun l => sm n fun j => A i l * B l j * C j k := sm_congr fun l _ => by rw [← sm_mul]; exact sm_congr fun j _ => (Int.mul_assoc _ _ _).symm
  rw [h1, h2, sm_comm]
/-- Through fewer there is nothing. -/
theorem det_thin {s n : Nat} (h : s < n) (A B : Mx) : det n (mul s A B) = 0 := by
  have e : det n (mul s A B) = det n (mul n (fun i j => if j < s then A i j else 0) B) := det_congr fun i k _ _ => by
    simp only [mul]
    rw [sm_cut (s := s) (n := n) (by omega) fun j h1 _ => by rw [if_neg (by omega), Int.zero_mul]]
    exact sm_congr fun j hj => by rw [if_pos hj]
  rw [e, det_mul, ← det_tr, (alt_det n).null (i := s) h fun c _ => by simp [tr], Int.zero_mul]
/-- A row with a 1 alone. -/
theorem det_unit {n k : Nat} (hk : k < n + 1) : ∀ {i : Nat}, i < n + 1 → ∀ A : Mx, det (n + 1) (sr A i (one k)) = sg (i + k) * det n (mn A i k)
  | 0, hi, A => by
    simp only [det]
    rw [sm_one (j := k) hk fun j _ hj => by simp [sr, one, Ne.symm hj], Nat.zero_add]
    rw [det_congr (A := mn (sr A 0 (one k)) 0 k) (B := mn A 0 k) fun r c _ _ => by simp [mn, sr, dl]]
    simp [sr, one]
  | i + 1, hi, A => by
    have h := det_unit hk (i := i) (by omega) (sr A (i + 1) (A i))
    have h2 := (alt_det (n + 1)).swap (i := i) (k := i + 1) (by omega) (by omega) hi (sr (sr A (i + 1) (A i)) i (one k))
    rw [det_congr (A := sr A (i + 1) (one k)) (B := sw (sr (sr A (i + 1) (A i)) i (one k)) i (i + 1)) fun r c _ _ => by
      simp only [sr, sw]
      by_cases e : r = i
      · subst e; simp
      · by_cases e2 : r = i + 1
        · subst e2; simp
        · simp [e, e2], h2, h, Nat.add_right_comm, sg_s]
    rw [det_congr (A := mn (sr A (i + 1) (A i)) i k) (B := mn A (i + 1) k) fun r c _ _ => by
      simp only [mn, sr]
      by_cases e : r < i
      · rw [dl_lt e, dl_lt (k := i + 1) (j := r) (by omega), if_neg (by omega)]
      · by_cases e2 : r = i
        · subst e2; rw [dl_ge (Nat.le_refl _), dl_lt (k := r + 1) (j := r) (by omega), if_pos rfl]
        · rw [dl_ge (k := i) (j := r) (by omega), if_neg (by omega), dl_ge (k := i + 1) (j := r) (by omega)]]
    grind
theorem sr_self (A : Mx) (i : Nat) : sr A i (A i) = A := by
  funext r c
  simp only [sr]
  split
  · next e => rw [e]
  · rfl
theorem sc_tr (A : Mx) (j : Nat) (u : Nat → Int) : tr (sc A j u) = sr (tr A) j u := rfl
theorem det_sc (n : Nat) (A : Mx) (j : Nat) (u : Nat → Int) : det n (sc A j u) = det n (sr (tr A) j u) := by rw [← det_tr, sc_tr]
/-- Cramer's rule. -/
theorem cramer {n u : Nat} (hu : u < n) {K : Mx} {x b : Nat → Int} {p : Int} (h : ∀ i, i < n → (sm n fun v => K i v * x v) = p * b i) : det n K * x u = p * det n (sc K u b) := by
  have T := alt_det n
  have e1 : det n (sr (tr K) u fun c => sm n fun k => x k * tr K k c) = x u * det n (tr K) := by
    rw [T.sum hu, sm_one (j := u) hu fun k hk hk2 => by rw [T.eq (i := u) (k := k) (Ne.symm hk2) hu hk fun c _ => by simp [sr, hk2], Int.mul_zero], sr_self]
  have e2 : det n (sr (tr K) u fun c => sm n fun k => x k * tr K k c) = p * det n (sr (tr K) u b) := by
    rw [← (alt_det n).scale hu (sr (tr K) u b) p]
    refine T.congr _ _ fun r c hr hc => ?_
    simp only [sr]
    split
    · rw [if_pos trivial, ← h c hc]; exact sm_congr fun k _ => Int.mul_comm _ _
    · rfl
  rw [det_sc, ← e2, e1, det_tr, Int.mul_comm]
end Go.Proofs.YtbpamkpclofnbaaGreat.MD
namespace Go.Proofs.YtbpamkpclofnbaaGreat.MD
set_option linter.unusedVariables false
set_option linter.unusedSimpArgs false
/-- Bareiss' elimination under way, s steps done: the rows stand as in A, the pivots' columns are c, the last pivot is p; g is what the numbers are. -/
structure Bs (A : Mx) (s : Nat) (c : Nat → Nat) (p : Int) (g : Mx) : Prop where
  ne : p ≠ 0
  dt : det s (fun t u => A t (c u)) = p
  hi : ∀ i j, i < s → (sm s fun u => A i (c u) * g u j) = p * A i j
  lo : ∀ i j, s ≤ i → p * A i j = (sm s fun u => A i (c u) * g u j) + g i j
/-- One column more. -/
def up (c : Nat → Nat) (s j : Nat) : Nat → Nat := fun u => if u = s then j else c u
theorem Bs.init (A : Mx) (c : Nat → Nat) : Bs A 0 c 1 A := ⟨by decide, rfl, fun i j h => by omega, fun i j _ => by simp [sm]⟩
theorem Bs.cols {A : Mx} {s : Nat} {c d : Nat → Nat} {p : Int} {g : Mx} (h : Bs A s c p g) (e : ∀ u, u < s → c u = d u) : Bs A s d p g := by
  have e1 : ∀ i j, (sm s fun u => A i (d u) * g u j) = sm s fun u => A i (c u) * g u j := fun i j => sm_congr fun u hu => by rw [e u hu]
  refine ⟨h.ne, ?_, fun i j hi => by rw [e1]; exact h.hi i j hi, fun i j hi => by rw [e1]; exact h.lo i j hi⟩
  rw [← h.dt]; exact det_congr fun i k _ hk => by rw [e k hk]
theorem Bs.swap {A : Mx} {s i0 : Nat} {c : Nat → Nat} {p : Int} {g : Mx} (h : Bs A s c p g) (h0 : s ≤ i0) : Bs (sw A s i0) s c p (sw g s i0) := by
  have e0 : ∀ (M : Mx) i, i < s → sw M s i0 i = M i := fun M i hi => by funext j; simp only [sw]; rw [if_neg (by omega), if_neg (by omega)]
  have e1 : ∀ i, s ≤ i → ∃ i', s ≤ i' ∧ ∀ M : Mx, sw M s i0 i = M i' := fun i hi => by
    by_cases h1 : i = s
    · exact ⟨i0, h0, fun M => by funext j; simp only [sw]; rw [if_pos h1]⟩
    · by_cases h2 : i = i0
      · exact ⟨s, Nat.le_refl _, fun M => by funext j; simp only [sw]; rw [if_neg h1, if_pos h2]⟩
      · exact ⟨i, hi, fun M => by funext j; simp only [sw]; rw [if_neg h1, if_neg h2]⟩
  refine ⟨h.ne, ?_, fun i j hi => ?_, fun i j hi => ?_⟩
  · rw [← h.dt]; exact det_congr fun i k hi _ => by rw [e0 A i hi]
  · rw [e0 A i hi, ← h.hi i j hi]; exact sm_congr fun u hu => by rw [e0 g u hu]
  · obtain ⟨i', h1, h2⟩ := e1 i hi
    rw [h2 A, h2 g, h.lo i' j h1]
    congr 1
    exact sm_congr fun u hu => by rw [e0 g u hu]
theorem Bs.det_up {A : Mx} {s : Nat} {c : Nat → Nat} {p : Int} {g : Mx} (h : Bs A s c p g) (j0 : Nat) : det (s + 1) (fun t u => A t (up c s j0 u)) = g s j0 := by
  have T := alt_det (s + 1)
  have e0 : ∀ u, u < s → up c s j0 u = c u := fun u hu => if_neg (by omega)
  have es : up c s j0 s = j0 := if_pos rfl
  let K : Mx := fun t u => A t (up c s j0 u)
  let a : Nat → Int := fun u => if u = s then g s j0 else g u j0
  let v : Nat → Nat → Int := fun u t => if u = s then one s t else A t (c u)
  have e1 : det (s + 1) (sr (tr K) s fun t => p * tr K s t) = p * det (s + 1) (tr K) := T.scale (by omega) _ _
  have e2 : det (s + 1) (sr (tr K) s fun t => p * tr K s t) = det (s + 1) (sr (tr K) s fun t => sm (s + 1) fun u => a u * v u t) := T.congr _ _ fun r t _ ht => by
    simp only [sr]
    split
    · simp only [sm]
      have e3 : (sm s fun u => a u * v u t) = sm s fun u => A t (c u) * g u j0 := sm_congr fun u hu => by simp only [a, v]; rw [if_neg (by omega), if_neg (by omega), Int.mul_comm]
      rw [e3]
      simp only [a, v, if_true, tr, K, es]
      by_cases hts : t = s
      · subst hts
        rw [h.lo t j0 (Nat.le_refl _)]; simp [one]
      · rw [← h.hi t j0 (by omega)]; simp [one, Ne.symm hts]
    · rfl
  have e4 : det (s + 1) (sr (tr K) s fun t => sm (s + 1) fun u => a u * v u t) = g s j0 * p := by
    rw [T.sum (by omega), sm_one (j := s) (by omega) fun u hu hus => ?_]
    · simp only [a, v, if_true]
      rw [show (fun t => one s t) = one s from rfl, det_unit (by omega) (by omega), sg_add, sg_sq, Int.one_mul]
      congr 1
      rw [← h.dt, ← det_tr]
      exact det_congr fun i k hi hk => by simp only [tr, mn, K]; rw [dl_lt hi, dl_lt hk, e0 k hk]
    · rw [T.eq (i := s) (k := u) (Ne.symm hus) (by omega) hu fun t _ => by
        simp only [sr, v, if_true, tr, K]
        rw [if_neg hus, if_neg hus, e0 u (by omega)], Int.mul_zero]
  have e5 : p * det (s + 1) K = p * g s j0 := by rw [← det_tr, ← e1, e2, e4, Int.mul_comm]
  exact Int.eq_of_mul_eq_mul_left h.ne e5
/-- One step: what is divided is divided exactly. -/
theorem Bs.step {A : Mx} {s : Nat} {c : Nat → Nat} {p : Int} {g : Mx} (h : Bs A s c p g) {j0 : Nat} (h0 : g s j0 ≠ 0) :
    ∃ g' : Mx, Bs A (s + 1) (up c s j0) (g s j0) g' ∧ (∀ j, g' s j = g s j) ∧ ∀ i j, i ≠ s → p * g' i j = g i j * g s j0 - g i j0 * g s j := by
  obtain ⟨P, hP⟩ : ∃ P, g s j0 = P := ⟨_, rfl⟩
  have e0 : ∀ u, u < s → up c s j0 u = c u := fun u hu => if_neg (by omega)
  have es : up c s j0 s = j0 := if_pos rfl
  have hdet := h.det_up j0
  rw [hP] at h0 hdet ⊢
  let K : Mx := fun t u => A t (up c s j0 u)
  let x : Nat → Nat → Int := fun j u => if u = s then p * g s j else g u j * P - g u j0 * g s j
  have hsum : ∀ i j, (sm (s + 1) fun u => A i (up c s j0 u) * x j u) = P * (sm s fun u => A i (c u) * g u j) - g s j * (sm s fun u => A i (c u) * g u j0) + A i j0 * (p * g s j) := fun i j => by
    simp only [sm]
    have e1 : (sm s fun u => A i (up c s j0 u) * x j u) = P * (sm s fun u => A i (c u) * g u j) + -(g s j) * (sm s fun u => A i (c u) * g u j0) := by
      rw [← sm_mul, ← sm_mul, ← sm_add]
      exact sm_congr fun u hu => by simp only [x]; rw [e0 u hu, if_neg (by omega)]; grind
    rw [e1]
    simp only [x, if_true, es]
    grind
  have hR : ∀ j i, i < s + 1 → (sm (s + 1) fun u => K i u * x j u) = p * P * A i j := fun j i hi => by
    show (sm (s + 1) fun u => A i (up c s j0 u) * x j u) = _
    rw [hsum]
    by_cases e : i < s
    · rw [h.hi i j e, h.hi i j0 e]; grind
    · obtain rfl : i = s := by omega
      have h1 := h.lo i j (Nat.le_refl _)
      have h2 := h.lo i j0 (Nat.le_refl _)
      rw [hP] at h2
      grind
  let y : Nat → Nat → Int := fun u j => if u = s then g s j else det (s + 1) (sc K u fun t => A t j)
  have hy : ∀ u j, u < s + 1 → p * y u j = x j u := fun u j hu => by
    by_cases e : u = s
    · simp only [y, x]; rw [if_pos e, if_pos e]
    · have h1 := cramer hu (hR j)
      rw [show det (s + 1) K = P from hdet] at h1
      simp only [y]
      rw [if_neg e]
      apply Int.eq_of_mul_eq_mul_left h0
      rw [h1]; grind
  refine ⟨fun i j => if i < s + 1 then y i j else P * A i j - sm (s + 1) fun u => A i (up c s j0 u) * y u j, ⟨h0, hdet, fun i j hi => ?_, fun i j hi => ?_⟩, fun j => ?_, fun i j hi => ?_⟩
  · apply Int.eq_of_mul_eq_mul_left h.ne
    rw [← sm_mul]
    have := hR j i hi
    rw [sm_congr (g := fun u => K i u * x j u) fun u hu => by rw [if_pos hu, ← hy u j hu]; grind, this, Int.mul_assoc]
  · rw [if_neg (by omega), sm_congr (g := fun u => A i (up c s j0 u) * y u j) fun u hu => by rw [if_pos hu]]
    omega
  · dsimp only
    rw [if_pos (by omega)]; simp only [y, if_true]
  · dsimp only
    split
    · next hlt => rw [hy i j hlt]; simp only [x]; rw [if_neg hi]
    · next hge =>
      have h1 := hsum i j
      have h2 : (sm (s + 1) fun u => A i (up c s j0 u) * x j u) = p * sm (s + 1) fun u => A i (up c s j0 u) * y u j := by
        rw [← sm_mul]; exact sm_congr fun u hu => by rw [← hy u j hu]; grind
      have h3 := h.lo i j (by omega)
      have h4 := h.lo i j0 (by omega)
      rw [Int.mul_sub, ← h2, h1]
      grind
/-- A vector that the matrix makes nothing of. -/
theorem det_null {n q : Nat} {M : Mx} {y : Nat → Int} (hq : q < n) (hy : y q ≠ 0) (h : ∀ i, i < n → (sm n fun k => M i k * y k) = 0) : det n M = 0 := by
  have := cramer (p := 0) (b := fun _ => 0) hq fun i hi => by rw [h i hi]; rfl
  rw [Int.zero_mul] at this
  rcases Int.mul_eq_zero.1 this with h1 | h1
  · exact h1
  · exact absurd h1 hy
theorem sm_dl {m k : Nat} (hk : k < m + 1) (f : Nat → Int) : sm (m + 1) f = f k + sm m fun u => f (dl k u) := by
  induction m with
  | zero =>
    obtain rfl : k = 0 := by omega
    simp [sm]
  | succ m ih =>
    by_cases e : k = m + 1
    · subst e
      rw [sm, Int.add_comm]
      congr 1
      exact sm_congr fun u hu => by rw [dl_lt hu]
    · rw [sm, ih (by omega)]
      simp only [sm]
      rw [dl_ge (k := k) (j := m) (by omega)]
      omega
/-- The matrix of a row less than columns, without column k. -/
def cut (A : Mx) (k : Nat) : Mx := fun i j => A i (dl k j)
/-- The determinants without a column solve all rows for 0. -/
theorem cut_sol {m i : Nat} (hi : i < m) (A : Mx) : (sm (m + 1) fun k => A i k * (sg k * det m (cut A k))) = 0 := by
  let B : Mx := fun r k => if r = 0 then A i k else A (r - 1) k
  have h1 : det (m + 1) B = 0 := (alt_det _).eq (i := 0) (k := i + 1) (by omega) (by omega) (by omega) fun c _ => by simp [B]
  rw [← h1]
  simp only [det]
  refine sm_congr fun k hk => ?_
  rw [det_congr (A := mn B 0 k) (B := cut A k) fun r c _ _ => by simp [mn, B, dl, cut]]
  simp only [B, if_true]
  grind
theorem Bs.cross {A : Mx} {m : Nat} {gap : Nat} {p : Int} {g : Mx} (h : Bs A m (dl gap) p g) (hg : gap < m + 1) :
    det m (cut A gap) = p ∧ ∀ u, u < m → sg (dl gap u) * det m (cut A (dl gap u)) = -(sg gap * g u gap) := by
  have h1 : det m (cut A gap) = p := h.dt
  refine ⟨h1, fun u hu => ?_⟩
  have h2 : ∀ i, i < m → (sm m fun v => cut A gap i v * (sg (dl gap v) * det m (cut A (dl gap v)))) = -(sg gap * p) * A i gap := fun i hi => by
    have h3 := cut_sol hi A
    rw [sm_dl hg, h1] at h3
    simp only [cut] at h3 ⊢
    grind
  have h3 := cramer hu h2
  have h4 := cramer hu (K := cut A gap) (x := fun v => g v gap) (b := fun i => A i gap) (p := p) fun i hi => h.hi i gap hi
  rw [h1] at h3 h4
  have h5 := Int.eq_of_mul_eq_mul_left h.ne h4
  rw [← h5] at h3
  apply Int.eq_of_mul_eq_mul_left h.ne
  rw [h3]; grind
/-- Two ways to make nothing: then no determinant is left. -/
theorem cut_null {m j1 j2 : Nat} {A : Mx} {y z : Nat → Int} {p : Int} (hp : p ≠ 0) (h1 : j1 < m + 1) (h2 : j2 < m + 1) (y1 : y j1 = p) (y2 : y j2 = 0) (z1 : z j1 = 0) (z2 : z j2 = p)
    (hy : ∀ i, i < m → (sm (m + 1) fun k => A i k * y k) = 0) (hz : ∀ i, i < m → (sm (m + 1) fun k => A i k * z k) = 0) {k : Nat} (hk : k < m + 1) : det m (cut A k) = 0 := by
  have key : ∀ x : Nat → Int, (∀ i, i < m → (sm (m + 1) fun k => A i k * x k) = 0) → x k = 0 → ∀ q, q < m + 1 → x q ≠ 0 → det m (cut A k) = 0 := fun x hx hxk q hq hq2 => by
    obtain ⟨u, hu, rfl⟩ : ∃ u, u < m ∧ dl k u = q := by
      by_cases e : q < k
      · exact ⟨q, by omega, dl_lt e⟩
      · by_cases e2 : q = k
        · subst e2; exact absurd hxk hq2
        · exact ⟨q - 1, by omega, by rw [dl_ge (by omega)]; omega⟩
    refine det_null (q := u) (y := fun v => x (dl k v)) hu hq2 fun i hi => ?_
    have := hx i hi
    rw [sm_dl hk, hxk, Int.mul_zero, Int.zero_add] at this
    exact this
  by_cases e : z k = 0
  · exact key z hz e j2 h2 (by rw [z2]; exact hp)
  · refine key (fun i => z k * y i - y k * z i) (fun i hi => ?_) (by grind) j1 h1 (by rw [y1, z1]; simp; exact ⟨e, hp⟩)
    have e1 : (sm (m + 1) fun q => A i q * (z k * y q - y k * z q)) = z k * (sm (m + 1) fun q => A i q * y q) + -(y k) * sm (m + 1) fun q => A i q * z q := by
      rw [← sm_mul, ← sm_mul, ← sm_add]; exact sm_congr fun q _ => by grind
    rw [e1, hy i hi, hz i hi]; simp
/-- A column without a pivot is a sum of multiples of those with one. -/
theorem Bs.dep {A : Mx} {s r j : Nat} {c : Nat → Nat} {p : Int} {g : Mx} (h : Bs A s c p g) (hz : ∀ i, s ≤ i → i < r → g i j = 0) {i : Nat} (hi : i < r) : p * A i j = sm s fun u => A i (c u) * g u j := by
  by_cases e : i < s
  · exact (h.hi i j e).symm
  · rw [h.lo i j (by omega), hz i (by omega) hi]; omega
/-- Columns c of the pivots differ, and a vector that lies on them alone. -/
theorem sm_on {s n : Nat} {c : Nat → Nat} {f w : Nat → Int} (hc : ∀ u, u < s → c u < n) (hi : ∀ u v, u < s → v < s → c u = c v → u = v) (hw : ∀ k, k < n → (∀ u, u < s → c u ≠ k) → w k = 0) : (sm n fun k => f k * w k) = sm s fun u => f (c u) * w (c u) := by
  have h1 : (sm n fun k => f k * w k) = sm n fun k => sm s fun u => if c u = k then f k * w k else 0 := sm_congr fun k hk => by
    by_cases e : ∃ u, u < s ∧ c u = k
    · obtain ⟨u, hu, e⟩ := e
      rw [sm_one (j := u) hu fun v hv hvu => if_neg fun e2 => hvu (hi v u hv hu (e2.trans e.symm)), if_pos e]
    · rw [hw k hk fun u hu e2 => e ⟨u, hu, e2⟩, sm_nil fun u hu => by split <;> simp, Int.mul_zero]
  rw [h1, sm_comm]
  exact sm_congr fun u hu => by rw [sm_one (j := c u) (hc u hu) fun k hk hk2 => if_neg (Ne.symm hk2), if_pos rfl]
end Go.Proofs.YtbpamkpclofnbaaGreat.MD
namespace Go.Proofs.YtbpamkpclofnbaaGreat
open Go.RowKit
set_option linter.unusedVariables false
set_option maxRecDepth 100000

/-- A cell. -/
def Vc (w : World) (d i : Nat) (v : Value) : Prop := d < w.heap.size ∧ w.cell? ⟨d, i, none⟩ = some v
section
variable {w v W w' : World} {d i g n c J K B : Nat} {u : Value} {A : Option Addr} {P : Nat → Prop} {s : Value}
theorem Vc.lt (h : Vc w d i u) : d < w.heap.size := h.1
theorem Vc.al (h : Vc w d i u) : w.cell? ⟨d, i, none⟩ = some u := h.2
theorem Vc.c0 (h : Vc w d i u) : w.cell? ⟨d, i, none⟩ = some u := h.2
theorem Vc.keep (h : Vc W d i u) (hb : Below W.heap.size W v) : Vc v d i u := ⟨Nat.lt_of_lt_of_le h.1 hb.size, (hb.cell (p := ⟨d, i, none⟩) h.1).trans h.2⟩
theorem Vc.sto (h : Vc W d i u) (hd : d ≠ g) (s : Sto W g v) : Vc v d i u := ⟨by rw [s.size]; exact h.1, (s.cell (p := ⟨d, i, none⟩) hd).trans h.2⟩
theorem Vc.via (h : Vc W d i u) (f : Fz P W w') (hp : ¬ P d) : Vc w' d i u := ⟨Nat.lt_of_lt_of_le h.1 f.size, (World.cell?_of_block (f.block d h.1 hp)).trans h.2⟩
theorem Vc.drw (h : Vc w d i u) : Vc w.drew d i u := h
theorem Vc.alloc (h : Vc w d i u) (o : Obj) : Vc (w.alloc o) d i u := h.keep (below_alloc _ _)
theorem Vc.gr {s : Value} (h : Vc w d i u) (hg : Gr s w w') (hne : s.ownBlock ≠ some d) : Vc w' d i u := ⟨Nat.lt_of_lt_of_le h.1 hg.grown.size, (World.cell?_of_block (hg.at_ h.1 hne)).trans h.2⟩
theorem Vc.of {ty : TypeId} (h : w.heap[g]? = some (.cells #[u] ty (0, 0))) : Vc w g 0 u := ⟨(Array.getElem?_eq_some_iff.1 h).1, by rw [cell_of_row w g 0 _ _ (0, 0) h]; rfl⟩
theorem Vc.aside {b' : Bool} {A' : Option Addr} {n' c' : Nat} (h : Vc W d i u) (hd : d ≠ g) : Vc ((W.setCell ⟨g, 0, none⟩ (.bool b')).setCell ⟨g, 1, none⟩ (.slice A' n' c')) d i u :=
  ⟨by simpa [World.setCell] using h.1, (World.cell?_setCell_other _ _ _ _ (fun e => hd (by injection e with e1; exact e1.symm))).trans ((World.cell?_setCell_other _ _ _ _ (fun e => hd (by injection e with e1; exact e1.symm))).trans h.2)⟩
instance : Mv (Vc W d i u) W v (Vc v d i u) := ⟨fun x y => x.keep y⟩
instance : Ms (Vc W d i u) W v g (d ≠ g) (Vc v d i u) := ⟨fun s hd x => x.sto hd s⟩
end
/-- The slice '.slice A n c' of slices of integers reads as M, and its cells lie below block B. -/
def Md (w : World) (B : Nat) (A : Option Addr) (n c : Nat) (M : List (List Int)) (J : Nat) : Prop :=
  M.length = n ∧ n ≤ c ∧ n ≤ 100000 ∧ (0 < n → ∃ d o, A = some ⟨d, o, none⟩ ∧ d < B ∧ ∀ k (hk : k < M.length), ∃ A' m c', w.cell? ⟨d, o + k, none⟩ = some (.slice A' m c') ∧ Pd w B A' m c' M[k] J)
/-- A slice of slices below a block that is there. -/
def Me (w : World) (B : Nat) (A : Option Addr) (n c : Nat) (M : List (List Int)) (J : Nat) : Prop := B ≤ w.heap.size ∧ Md w B A n c M J
section
variable {w v W : World} {B B' g n c J K : Nat} {A : Option Addr} {M : List (List Int)}
theorem Md.len (h : Md w B A n c M J) : M.length = n := h.1
theorem Md.cap (h : Md w B A n c M J) : n ≤ c := h.2.1
theorem Md.big (h : Md w B A n c M J) : n ≤ 100000 := h.2.2.1
theorem Md.kto (h : Md w B A n c M J) (hK : J ≤ K) : Md w B A n c M K := ⟨h.1, h.2.1, h.2.2.1, fun hn => by
  obtain ⟨d, o, e, hd, hc⟩ := h.2.2.2 hn
  refine ⟨d, o, e, hd, fun k hk => ?_⟩
  obtain ⟨A', m, c', h1, h2⟩ := hc k hk
  exact ⟨A', m, c', h1, h2.kto hK⟩⟩
theorem Md.more (h : Md w B A n c M J) (hB : B ≤ B') : Md w B' A n c M J := ⟨h.1, h.2.1, h.2.2.1, fun hn => by
  obtain ⟨d, o, e, hd, hc⟩ := h.2.2.2 hn
  refine ⟨d, o, e, by omega, fun k hk => ?_⟩
  obtain ⟨A', m, c', h1, h2⟩ := hc k hk
  exact ⟨A', m, c', h1, h2.more hB⟩⟩
theorem Md.keep (h : Md w B A n c M J) (hB : B ≤ w.heap.size) (hb : Below w.heap.size w v) : Md v B A n c M J := ⟨h.1, h.2.1, h.2.2.1, fun hn => by
  obtain ⟨d, o, e, hd, hc⟩ := h.2.2.2 hn
  refine ⟨d, o, e, hd, fun k hk => ?_⟩
  obtain ⟨A', m, c', h1, h2⟩ := hc k hk
  exact ⟨A', m, c', (hb.cell (p := ⟨d, o + k, none⟩) (by show d < w.heap.size; omega)).trans h1, h2.keep hB hb⟩⟩
theorem Md.sto (h : Md W B A n c M J) (hB : B ≤ g) (s : Sto W g v) : Md v B A n c M J := ⟨h.1, h.2.1, h.2.2.1, fun hn => by
  obtain ⟨d, o, e, hd, hc⟩ := h.2.2.2 hn
  refine ⟨d, o, e, hd, fun k hk => ?_⟩
  obtain ⟨A', m, c', h1, h2⟩ := hc k hk
  exact ⟨A', m, c', (s.cell (p := ⟨d, o + k, none⟩) (by show d ≠ g; omega)).trans h1, h2.sto hB s⟩⟩
theorem Md.me (h : Md w w.heap.size A n c M J) : Me w w.heap.size A n c M J := ⟨Nat.le_refl _, h⟩
theorem Me.md (h : Me w B A n c M J) : Md w w.heap.size A n c M J := h.2.more h.1
theorem Me.keep (h : Me W B A n c M J) (hb : Below W.heap.size W v) : Me v B A n c M J := ⟨Nat.le_trans h.1 hb.size, h.2.keep h.1 hb⟩
theorem Me.sto (h : Me W B A n c M J) (hB : B ≤ g) (s : Sto W g v) : Me v B A n c M J := ⟨by rw [s.size]; exact h.1, h.2.sto hB s⟩
theorem Me.kto (h : Me w B A n c M J) (hK : J ≤ K) : Me w B A n c M K := ⟨h.1, h.2.kto hK⟩
theorem Me.len (h : Me w B A n c M J) : M.length = n := h.2.1
theorem Me.big (h : Me w B A n c M J) : n ≤ 100000 := h.2.2.2.1
theorem Me.drw (h : Me w B A n c M J) : Me w.drew B A n c M J := h
instance : Mv (Me W B A n c M J) W v (Me v B A n c M J) := ⟨fun x y => x.keep y⟩
instance : Ms (Me W B A n c M J) W v g (B ≤ g) (Me v B A n c M J) := ⟨fun s hd x => x.sto hd s⟩
/-- A row: its cell, and what it reads as. -/
theorem Me.row (h : Me w B A n c M J) {k : Nat} (hk : k < n) : ∃ d o A' m c', A = some ⟨d, o, none⟩ ∧ d < B ∧ Vc w d (o + k) (.slice A' m c') ∧ Pe w B A' m c' (M[k]'(by have := h.2.1; omega)) J := by
  obtain ⟨d, o, e, hd, hc⟩ := h.2.2.2.2 (by omega)
  obtain ⟨A', m, c', h1, h2⟩ := hc k (by have := h.2.1; omega)
  exact ⟨d, o, A', m, c', e, hd, ⟨by have := h.1; omega, h1⟩, h.1, h2⟩
end
/-- A slice of slices of integers in normal form. -/
def Mn (w : World) (A : Option Addr) (n c : Nat) (M : List (List Int)) (J : Nat) : Prop :=
  M.length = n ∧ n ≤ c ∧ n ≤ 100000 ∧ (0 < n → ∃ d o, A = some ⟨d, o, none⟩ ∧ d < w.heap.size ∧ ∀ k (hk : k < M.length), ∃ A' m c', w.cell? ⟨d, o + k, none⟩ = some (.slice A' m c') ∧ Pn w A' m c' M[k] J)
section
variable {w v W : World} {B B' g n c J K : Nat} {A : Option Addr} {M : List (List Int)}
theorem Mn.keep (h : Mn W A n c M J) (hb : Below W.heap.size W v) : Mn v A n c M J := ⟨h.1, h.2.1, h.2.2.1, fun hn => by
  obtain ⟨d, o, e, hd, hc⟩ := h.2.2.2 hn
  refine ⟨d, o, e, Nat.lt_of_lt_of_le hd hb.size, fun k hk => ?_⟩
  obtain ⟨A', m, c', h1, h2⟩ := hc k hk
  exact ⟨A', m, c', (hb.cell (p := ⟨d, o + k, none⟩) hd).trans h1, h2.keep hb⟩⟩
theorem Mn.md (h : Mn w A n c M J) : Md w w.heap.size A n c M J := ⟨h.1, h.2.1, h.2.2.1, fun hn => by
  obtain ⟨d, o, e, hd, hc⟩ := h.2.2.2 hn
  refine ⟨d, o, e, hd, fun k hk => ?_⟩
  obtain ⟨A', m, c', h1, h2⟩ := hc k hk
  exact ⟨A', m, c', h1, h2.pd⟩⟩
theorem Mn.kto (h : Mn w A n c M J) (hK : J ≤ K) : Mn w A n c M K := ⟨h.1, h.2.1, h.2.2.1, fun hn => by
  obtain ⟨d, o, e, hd, hc⟩ := h.2.2.2 hn
  refine ⟨d, o, e, hd, fun k hk => ?_⟩
  obtain ⟨A', m, c', h1, h2⟩ := hc k hk
  exact ⟨A', m, c', h1, h2.kto hK⟩⟩
theorem Mn.len (h : Mn w A n c M J) : M.length = n := h.1
instance : Mv (Mn W A n c M J) W v (Mn v A n c M J) := ⟨fun x y => x.keep y⟩
theorem Mn.row (h : Mn w A n c M J) {k : Nat} (hk : k < n) : ∃ d o A' m c', A = some ⟨d, o, none⟩ ∧ Vc w d (o + k) (.slice A' m c') ∧ Pn w A' m c' (M[k]'(by have := h.1; omega)) J := by
  obtain ⟨d, o, e, hd, hc⟩ := h.2.2.2 (by omega)
  obtain ⟨A', m, c', h1, h2⟩ := hc k (by have := h.1; omega)
  exact ⟨d, o, A', m, c', e, ⟨hd, h1⟩, h2⟩
end
/-- A right matrix of n rows and m columns. -/
def Rt (M : List (List Int)) (n m : Nat) : Prop := M.length = n ∧ 0 < n ∧ 0 < m ∧ ∀ k (hk : k < M.length), M[k].length = m
/-- The matrix of a list of rows. -/
def mx (M : List (List Int)) : MD.Mx := fun i k => (M.getD i []).getD k 0
theorem mx_at {M : List (List Int)} {i k : Nat} (hi : i < M.length) (hk : k < M[i].length) : mx M i k = M[i][k] := by
  have h1 : M.getD i [] = M[i] := by rw [List.getD_eq_getElem?_getD, List.getElem?_eq_getElem hi]; rfl
  have h2 : M[i].getD k 0 = M[i][k] := by rw [List.getD_eq_getElem?_getD, List.getElem?_eq_getElem hk]; rfl
  show (M.getD i []).getD k 0 = _
  rw [h1, h2]
end Go.Proofs.YtbpamkpclofnbaaGreat
namespace Go.Proofs.YtbpamkpclofnbaaGreat
open Go.RowKit
set_option linter.unusedVariables false
set_option maxRecDepth 100000

theorem Tryz.infoR : (Tryz.prog.info? 22).map (fun i => (i.zero, i.size, i.bytes)) = some (some (.slice none 0 0), 1, 24) := by kernel_rfl
/-- Block g holds just these slices. -/
def Bm (w : World) (g : Nat) (cs : List Value) : Prop :=
  ∃ cur : Array Value, w.heap[g]? = some (.cells cur 22 (0, 0)) ∧ cur.toList = cs ∧ cs.length ≤ 100000 ∧ Kd cs
section
variable {w v W : World} {g n c k : Nat} {cs : List Value} {u : Value} {A : Option Addr}
theorem Bm.lt (h : Bm w g cs) : g < w.heap.size := by
  obtain ⟨cur, h, _⟩ := h
  exact (Array.getElem?_eq_some_iff.1 h).1
theorem Bm.len (h : Bm w g cs) : cs.length ≤ 100000 := by
  obtain ⟨cur, _, _, h, _⟩ := h
  exact h
theorem Bm.keep (h : Bm w g cs) (hb : Below w.heap.size w v) : Bm v g cs := by
  have hl := h.lt
  obtain ⟨cur, h, h2⟩ := h
  exact ⟨cur, (hb.block g hl).trans h, h2⟩
theorem Bm.sto {d : Nat} (h : Bm W d cs) (hd : d ≠ g) (s : Sto W g v) : Bm v d cs := by
  obtain ⟨cur, h, h2⟩ := h
  exact ⟨cur, (s.block _ hd).trans h, h2⟩
theorem Bm.nl (h : Bm w g cs) : Nl w g := by
  obtain ⟨cur, h, h1, h2, h3⟩ := h
  exact nl_of h fun i y e => h3 _ (by rw [← h1]; have := Array.mem_of_getElem? e; simpa using this) y rfl
theorem Bm.fr (h : Bm w g cs) (i : Nat) : w.frozen? ⟨g, i, none⟩ = false := by
  obtain ⟨cur, h, _⟩ := h
  simp [World.frozen?, h]
theorem Bm.at_ (h : Bm w g cs) (hk : cs[k]? = some u) : Vc w g k u := by
  have hl := h.lt
  obtain ⟨cur, h, h1, h2⟩ := h
  refine ⟨hl, ?_⟩
  rw [cell_of_row w g k _ _ (0, 0) h, ← Array.getElem?_toList, h1]
  exact hk
theorem Bm.set (h : Bm W g cs) (hk : k < cs.length) : Sto W g (W.setCell ⟨g, k, none⟩ (.slice A n c)) ∧ Bm (W.setCell ⟨g, k, none⟩ (.slice A n c)) g (cs.set k (.slice A n c)) := by
  have N := h.nl
  have s : Sto W g (W.setCell ⟨g, k, none⟩ (.slice A n c)) := (Sto.refl W g).set N
  refine ⟨s, ?_⟩
  obtain ⟨cur, h, h1, h2, h3⟩ := h
  refine ⟨cur.setIfInBounds k (.slice A n c), ?_, ?_, by simpa using h2, ?_⟩
  · simp [World.setCell, Array.getElem?_modify, h]
  · rw [Array.toList_setIfInBounds, h1]
  · have := kd_set (cs := cur) (i := k) (u := .slice A n c) (by rw [h1]; exact h3) (by simp)
    rwa [Array.toList_setIfInBounds, h1] at this
instance : Mv (Bm W g cs) W v (Bm v g cs) := ⟨fun x y => x.keep y⟩
instance {d : Nat} : Ms (Bm W d cs) W v g (d ≠ g) (Bm v d cs) := ⟨fun s hd x => x.sto hd s⟩
theorem Bm.of_heap {m : Nat} {cells : Array Value} (h : w.heap[g]? = some (.cells cells 22 (0, 0))) (hm : m ≤ 100000) (hcs : cells = Builtin.zeroCells #[.slice none 0 0] m) : Bm w g (List.replicate m (.slice none 0 0)) := by
  subst hcs
  have e : (Builtin.zeroCells #[Value.slice none 0 0] m).toList = List.replicate m (.slice none 0 0) := by
    apply List.ext_getElem
    · simp [Builtin.zeroCells]
    · intro i h1 h2
      simp [Builtin.zeroCells]
      rw [Nat.mod_one]; rfl
  refine ⟨_, h, e, by simpa using hm, fun u hu x => ?_⟩
  rw [List.eq_of_mem_replicate hu]; simp
end
/-- make of a slice of slices. -/
theorem wp_makeM {w : World} {ops : Array Oper} {rest : List Oper} {o : Oper} {a : Act} {Q : Exit → Act → World → Prop} (hg : o.guard = none) (l c : Operand) (hop : o.op = Op.makeSlice 35 l c)
    (n : Nat) (L C : Int) (hl : a.eval l = .int .i64 L) (hc : a.eval c = .int .i64 C) (hL : L = (n : Int)) (hC : C = (n : Int)) (hn : n ≤ 100000)
    (hK : ∀ w', Bm w' w.heap.size (List.replicate n (.slice none 0 0)) → Below w.heap.size w w' → wpList Tryz.prog ops Q rest (a.put o.dst (.slice (some ⟨w.heap.size, 0, none⟩) n n)) w') :
    wpList Tryz.prog ops Q (o :: rest) a w := by
  obtain ⟨i0, hi, hz0, hz1, hz2⟩ := info_parts Tryz.infoR
  refine wpList_make_full w hg l c 35 hop 0 22 i0 (.slice none 0 0) 1 Tryz.underlying35 hi hz0 hz1 .i64 .i64 L C n hl hc hL hC (by rw [hz2]; omega) (by unfold maxLen; omega) (Nat.zero_le _) ?_
  intro w' hown hgrow
  refine hK w' ?_ ⟨hgrow.os, hgrow.tape, hgrow.output, hgrow.size, fun k hk => hgrow.block k hk (by simp)⟩
  obtain ⟨_, h2⟩ := hown
  rcases h2 with ⟨h, _⟩ | ⟨g, cap, cur, hv, _, hh, hnc, _, hcs, hxs⟩
  · cases h
  · injection hv with hv1 hv2 hv3
    injection hv1 with hv1
    injection hv1 with hv1
    subst hv1 hv3
    have e : cur = Builtin.zeroCells #[.slice none 0 0] n := by
      rw [List.take_of_length_le (by simp; omega)] at hxs
      exact Array.toList_inj.1 hxs
    exact Bm.of_heap hh hn e
/-- make of a row. -/
theorem wp_makeR {w : World} {ops : Array Oper} {rest : List Oper} {o : Oper} {a : Act} {Q : Exit → Act → World → Prop} (hg : o.guard = none) (l c : Operand) (hop : o.op = Op.makeSlice 22 l c)
    (n J : Nat) (L C : Int) (hl : a.eval l = .int .i64 L) (hc : a.eval c = .int .i64 C) (hL : L = (n : Int)) (hC : C = (n : Int)) (hn : n ≤ 100000)
    (hK : ∀ w', Pw w' w.heap.size (List.replicate n 0) J → Below w.heap.size w w' → wpList Tryz.prog ops Q rest (a.put o.dst (.slice (some ⟨w.heap.size, 0, none⟩) n n)) w') :
    wpList Tryz.prog ops Q (o :: rest) a w := by
  obtain ⟨i0, hi, hz0, hz1, hz2⟩ := info_parts Tryz.infoI
  refine wpList_make_full w hg l c 22 hop 0 30 i0 (.agg #[.bool false, .slice none 0 0]) 2 Tryz.underlying22 hi hz0 hz1 .i64 .i64 L C n hl hc hL hC (by rw [hz2]; omega) (by unfold maxLen; omega) (Nat.zero_le _) ?_
  intro w' hown hgrow
  refine hK w' ?_ ⟨hgrow.os, hgrow.tape, hgrow.output, hgrow.size, fun k hk => hgrow.block k hk (by simp)⟩
  obtain ⟨_, h2⟩ := hown
  rcases h2 with ⟨h, _⟩ | ⟨g, cap, cur, hv, _, hh, hnc, _, hcs, hxs⟩
  · cases h
  · injection hv with hv1 hv2 hv3
    injection hv1 with hv1
    injection hv1 with hv1
    subst hv1 hv3
    have e : cur = Builtin.zeroCells #[.bool false, .slice none 0 0] n := by
      rw [List.take_of_length_le (by simp; omega)] at hxs
      exact Array.toList_inj.1 hxs
    exact Pw.of_heap hh hn e
end Go.Proofs.YtbpamkpclofnbaaGreat
namespace Go.Proofs.YtbpamkpclofnbaaGreat
open Go.RowKit
open MP.Se (nf co)
set_option linter.unusedVariables false
set_option maxRecDepth 100000

theorem Rt_no0 {M : List (List Int)} {n m : Nat} (h : M.length = 0) : ¬ Rt M n m := fun r => by have := r.1; have := r.2.1; omega
/-- What Right tells. -/
def RiP (w : World) (M : List (List Int)) (n : Nat) (e : Ending) (w' : World) : Prop :=
  ∃ β, e = .returned (.bool β) ∧ ((β = true ∧ ∃ m, Rt M n m ∧ m ≤ 100000) ∨ (β = false ∧ ∀ n m, ¬ Rt M n m)) ∧ Below w.heap.size w w'
theorem MRight_any {A : Option Addr} {n c J : Nat} {M : List (List Int)} {w : World} (h : Md w w.heap.size A n c M J) :
    Calls Tryz.prog 33 #[.slice A n c] w (RiP w M n) := by
  have hl := h.len
  have hbg := h.big
  have hb := Below.refl w.heap.size w
  replace h := h.me
  have HL := Lib.hid hl
  rcases (show n = 0 ∨ 0 < n by omega) with h0 | h0
  · have HN : Hid (∀ n m, ¬ Rt M n m) := Lib.hid fun n m => Rt_no0 (by omega)
    subst h0
    clear hl
    go_enter Tryz.func33, Tryz.ntmps33
    go_wp2
    go_ret
    exact ⟨false, rfl, .inr ⟨rfl, HN.out⟩, hb⟩
  have hn0 : ((n : Int) == 0) = false := by simp; omega
  obtain ⟨d, o, A1, m1, c1, rfl, hd, x_r, p_r⟩ := h.row h0
  have hm1 := p_r.2.len
  have hmb := p_r.2.big
  have HM1 := Lib.hid hm1
  have q_r : w.cell? ⟨d, o, none⟩ = some (.slice A1 m1 c1) := x_r.al
  rcases (show m1 = 0 ∨ 0 < m1 by omega) with h1 | h1
  · have HN : Hid (∀ n m, ¬ Rt M n m) := Lib.hid fun n m r => by
      have := r.2.2.2 0 (by omega); have := r.2.2.1; omega
    subst h1
    clear hl hm1
    go_enter Tryz.func33, Tryz.ntmps33
    go_wp2
    go_ret
    exact ⟨false, rfl, .inr ⟨rfl, HN.out⟩, hb⟩
  have hm0 : ((m1 : Int) == 0) = false := by simp; omega
  clear hl hm1
  go_enter Tryz.func33, Tryz.ntmps33
  go_wp2_with fail
  go_loopw [17] (fun kv wr => ∃ k : Nat, k ≤ n ∧ kv = .int .i64 (k : Int) ∧ Hid (∀ j (hj : j < M.length), j < k → M[j].length = m1) ∧ wr = w) (fun kv _ => n - (intOf kv).toNat)
  case atStart => exact ⟨0, by omega, rfl, Lib.hid fun _ _ h => absurd h (by omega), rfl⟩
  case round =>
    obtain ⟨k, hk, rfl, hj, rfl⟩ := hrel
    rcases (show n = k ∨ k < n by omega) with hin | hin
    · have HR : Hid (∃ m, Rt M n m ∧ m ≤ 100000) := Lib.hid ⟨m1, ⟨HL.out, h0, h1, fun j hjl => hj.out j hjl (by have := HL.out; omega)⟩, hmb⟩
      subst hin
      clear hj
      go_wp2
      go_ret
      exact ⟨true, rfl, .inl ⟨rfl, HR.out⟩, hb⟩
    · obtain ⟨d2, o2, A2, m2, c2, e2, hd2, x_k, p_k⟩ := h.row hin
      injection e2 with e2
      injection e2 with e2 e3 e4
      subst e2
      subst e3
      have hm2 := p_k.2.len
      have hmb2 := p_k.2.big
      have hkl : k < M.length := by have := HL.out; omega
      have q_k := x_k.al
      rcases (show m2 = m1 ∨ m2 ≠ m1 by omega) with he | he
      · have hj2 : Hid (∀ j (hj : j < M.length), j < k + 1 → M[j].length = m1) := Lib.hid fun j hjl hjk => by
          rcases (show j < k ∨ j = k by omega) with h2 | h2
          · exact hj.out j hjl h2
          · subst h2; rw [hm2, he]
        subst he
        clear hj hm2 p_k
        go_wp2_with fail
        exact ⟨⟨k + 1, by omega, by go_num, hj2, trivial⟩, by simp [intOf]; omega⟩
      · have HN : Hid (∀ n m, ¬ Rt M n m) := Lib.hid fun n m r => by
          have h3 := r.2.2.2 0 (by have := HL.out; omega); have h4 := r.2.2.2 k hkl; have := HM1.out; omega
        have hne : ((m2 : Int) != m1) = true := by simp; omega
        clear hj hm2 p_k
        go_wp2
        go_ret
        exact ⟨false, rfl, .inr ⟨rfl, HN.out⟩, hb⟩
/-- What square tells. -/
def SqP (w : World) (M : List (List Int)) (n : Nat) (e : Ending) (w' : World) : Prop :=
  ((e = .returned (.bool true) ∧ Rt M n n) ∨ (e = .returned (.bool false) ∧ ¬ Rt M n n)) ∧ Below w.heap.size w w'
theorem Me.row0 {w : World} {B n c J : Nat} {A : Option Addr} {M : List (List Int)} (h : Me w B A n c M J) (h0 : 0 < n) : ∃ d o A' m c', A = some ⟨d, o, none⟩ ∧ d < B ∧ Vc w d o (.slice A' m c') ∧ Pe w B A' m c' (M[0]'(by have := h.2.1; omega)) J := by
  obtain ⟨d, o, A', m, c', h1, h2, h3, h4⟩ := h.row h0
  exact ⟨d, o, A', m, c', h1, h2, h3, h4⟩
theorem Msquare_any {A : Option Addr} {n c J : Nat} {M : List (List Int)} {w : World} (h : Md w w.heap.size A n c M J) :
    Calls Tryz.prog 89 #[.slice A n c] w (SqP w M n) := by
  have hl := h.len
  have hbg := h.big
  have hb := Below.refl w.heap.size w
  replace h := h.me
  have HL := Lib.hid hl; clear hl
  go_enter Tryz.func89, Tryz.ntmps89
  go_wp2_with fail
  with_reducible refine (MRight_any h.md).mono ?_
  rintro e v1 ⟨β, rfl, hcase, hb1⟩
  obtain ⟨h, hb⟩ := mv2 hb1 h hb
  clear hb1
  rcases hcase with ⟨rfl, m, hr, hmb⟩ | ⟨rfl, hno⟩
  · have h0 := hr.2.1
    obtain ⟨d, o, A1, m1, c1, rfl, hd, x_r, p_r⟩ := h.row0 h0
    have hm1 := p_r.2.len
    obtain rfl : m1 = m := by rw [← hm1]; exact hr.2.2.2 0 (by have := HL.out; omega)
    have q_r := x_r.al
    have HR := Lib.hid hr; clear hr hm1 p_r
    rcases (show n = m1 ∨ n ≠ m1 by omega) with he | he
    · subst he
      go_wp2
      go_ret
      exact ⟨.inl ⟨by simp, HR.out⟩, hb⟩
    · have hne : ((n : Int) == m1) = false := by simp; omega
      have HN : Hid (¬ Rt M n n) := Lib.hid fun h => he (by have h1 := h.2.2.2 0 (by have := HL.out; omega); have h2 := HR.out.2.2.2 0 (by have := HL.out; omega); omega)
      clear he
      go_wp2
      go_ret
      exact ⟨.inr ⟨by simp, HN.out⟩, hb⟩
  · have HN := Lib.hid hno; clear hno
    go_wp2
    go_ret
    exact ⟨.inr ⟨rfl, HN.out n n⟩, hb⟩
theorem Msigned_any {A : Option Addr} {n c J : Nat} {b β : Bool} {X : Int} {w : World} (z : Zr w b A n c X J) (hJ : J ≤ 1000000) :
    Calls Tryz.prog 91 #[.agg #[.bool b, .slice A n c], .bool β] w (OutZ w (if β then -X else X) J) := by
  cases β
  · show Calls _ _ _ _ (OutZ w X J)
    go_enter Tryz.func91, Tryz.ntmps91
    go_upto_region 1 with fail
    refine al2 fun v1 hb x_a x_r => ?_
    replace x_a := Bx.of x_a; replace x_r := Bx.of x_r
    replace z := Mv.mv z hb
    have q_a := x_a.al
    have q_r := x_r.al
    go_wp2_with fail
    with_reducible refine (ZNorm_any z J (Nat.le_refl _)).mono ?_
    rintro e v2 ⟨A3, n3, c3, rfl, z3, hb1⟩
    obtain ⟨x_a, x_r, z, hb⟩ := mv4 hb1 x_a x_r z hb
    clear hb1
    replace q_a := x_a.al
    replace q_r := x_r.al
    go_wp2
    clear q_a q_r
    refine x_r.st fun v3 hs hx => ?_
    obtain ⟨x_a, z, z3, hb⟩ := ms4 hs ⟨by omega, trivial, trivial, by omega⟩ x_a z z3 hb
    replace x_r := hx; clear hx hs
    have q_a := x_a.al
    have q_r := x_r.al
    skip
    refine bodyPost_ret (v := .agg #[.bool (ngB (X)), .slice A3 n3 c3]) (by simp [results, Tryz.results91, go_sem, q_r]) rfl ?_
    exact ⟨_, _, _, rfl, z3, hb⟩
  · show Calls _ _ _ _ (OutZ w (-X) J)
    go_enter Tryz.func91, Tryz.ntmps91
    go_upto_region 1 with fail
    refine al2 fun v1 hb x_a x_r => ?_
    replace x_a := Bx.of x_a; replace x_r := Bx.of x_r
    replace z := Mv.mv z hb
    have q_a := x_a.al
    have q_r := x_r.al
    go_wp2_with fail
    with_reducible refine (ZNeg_any z J (Nat.le_refl _)).mono ?_
    rintro e v2 ⟨A3, n3, c3, rfl, z3, hb1⟩
    obtain ⟨x_a, x_r, z, hb⟩ := mv4 hb1 x_a x_r z hb
    clear hb1
    replace q_a := x_a.al
    replace q_r := x_r.al
    go_wp2
    clear q_a q_r
    refine x_r.st fun v3 hs hx => ?_
    obtain ⟨x_a, z, z3, hb⟩ := ms4 hs ⟨by omega, trivial, trivial, by omega⟩ x_a z z3 hb
    replace x_r := hx; clear hx hs
    have q_a := x_a.al
    have q_r := x_r.al
    skip
    refine bodyPost_ret (v := .agg #[.bool (ngB (-X)), .slice A3 n3 c3]) (by simp [results, Tryz.results91, go_sem, q_r]) rfl ?_
    exact ⟨_, _, _, rfl, z3, hb⟩
end Go.Proofs.YtbpamkpclofnbaaGreat
namespace Go.Proofs.YtbpamkpclofnbaaGreat
open Go.RowKit
open MP.Se (nf co)
set_option linter.unusedVariables false
set_option maxRecDepth 100000

/-- The matrix of n rows and m columns whose numbers are f. -/
def mo2 (f : Nat → Nat → Int) (n m : Nat) : List (List Int) := (List.range n).map fun i => (List.range m).map (f i)
theorem mo2_len (f : Nat → Nat → Int) (n m : Nat) : (mo2 f n m).length = n := by simp [mo2]
theorem mo2_row {f : Nat → Nat → Int} {n m i : Nat} (hi : i < (mo2 f n m).length) : (mo2 f n m)[i] = (List.range m).map (f i) := by simp [mo2]
/-- A function value that hands back the number f i k, in all worlds above w. -/
structure Bc (w : World) (fid : Nat) (caps : Array Value) (f : Nat → Nat → Int) (n m K : Nat) : Prop where
  ent : ∀ (args : Array Value) (w : World), (callFunc fid args).run Tryz.prog w = .ok (.enter fid args) w
  step : ∀ (w' : World) (i k : Nat), i < n → k < m → Below w.heap.size w w' → Calls Tryz.prog fid (#[.int .i64 (i : Int), .int .i64 (k : Int)] ++ caps) w' (OutZ w' (f i k) K)
/-- Rows that are there: the first i cells. -/
def Rw (wr : World) (g : Nat) (cs : List Value) (f : Nat → Nat → Int) (m K i : Nat) : Prop :=
  ∀ k, k < i → ∃ gk, cs[k]? = some (.slice (some ⟨gk, 0, none⟩) m m) ∧ g < gk ∧ gk < wr.heap.size ∧ Pw wr gk ((List.range m).map (f k)) K
/-- What the outer loop of build keeps. -/
def BuO (w : World) (f : Nat → Nat → Int) (n m K g i : Nat) (wr : World) : Prop :=
  ∃ cs, Bm wr g cs ∧ cs.length = n ∧ Rw wr g cs f m K i ∧ Below w.heap.size w wr
/-- What the inner loop of build keeps. -/
def BuI (w : World) (f : Nat → Nat → Int) (n m K g gi i k : Nat) (wr : World) : Prop :=
  ∃ cs L, Bm wr g cs ∧ cs.length = n ∧ Rw wr g cs f m K i ∧ (∀ j, j < i → cs[j]? ≠ some (.slice (some ⟨gi, 0, none⟩) m m)) ∧ cs[i]? = some (.slice (some ⟨gi, 0, none⟩) m m) ∧ g < gi ∧ Pw wr gi L K ∧ L.length = m ∧ L.take k = ((List.range m).map (f i)).take k ∧ Below w.heap.size w wr
theorem Rw.keep {w v : World} {g : Nat} {cs : List Value} {f : Nat → Nat → Int} {m K i : Nat} (h : Rw w g cs f m K i) (hb : Below w.heap.size w v) : Rw v g cs f m K i := fun k hk => by
  obtain ⟨gk, h1, h2, h3, h4⟩ := h k hk
  exact ⟨gk, h1, h2, Nat.lt_of_lt_of_le h3 hb.size, h4.keep hb⟩
theorem Rw.sto {w v : World} {g gi : Nat} {cs : List Value} {f : Nat → Nat → Int} {m K i : Nat} (h : Rw w g cs f m K i) (hne : ∀ j, j < i → cs[j]? ≠ some (.slice (some ⟨gi, 0, none⟩) m m)) (s : Sto w gi v) : Rw v g cs f m K i := fun k hk => by
  obtain ⟨gk, h1, h2, h3, h4⟩ := h k hk
  exact ⟨gk, h1, h2, by rw [s.size]; exact h3, h4.sto (fun e => hne k hk (by rw [h1, e])) s⟩
theorem Rw.set {w v : World} {g m K i : Nat} {cs : List Value} {f : Nat → Nat → Int} {A : Option Addr} {n c : Nat} (h : Rw w g cs f m K i) (s : Sto w g v) : Rw v g (cs.set i (.slice A n c)) f m K i := fun k hk => by
  obtain ⟨gk, h1, h2, h3, h4⟩ := h k hk
  exact ⟨gk, by rw [List.getElem?_set_ne (by omega)]; exact h1, h2, by rw [s.size]; exact h3, h4.sto (by omega) s⟩
set_option maxHeartbeats 1000000 in
theorem Mbuild_any {w : World} {fid n m K : Nat} {caps : Array Value} {f : Nat → Nat → Int} (C : Bc w fid caps f n m K) (hn : n ≤ 1000) (hm : m ≤ 1000) (hK : K ≤ 1000000) :
    Calls Tryz.prog 81 #[.int .i64 (n : Int), .int .i64 (m : Int), .func (.func fid) #[] caps] w fun e w' => ∃ A c, e = .returned (.slice A n c) ∧ Mn w' A n c (mo2 f n m) K ∧ Below w.heap.size w w' := by
  have HE := C.ent
  have HC := Lib.hid C.step
  clear C
  go_enter Tryz.func81, Tryz.ntmps81
  go_wp2_with (at_make; refine wp_makeM rfl _ _ rfl n _ _ rfl rfl rfl rfl (by omega) ?_; intro v1 b_g hb)
  have hr0 : BuO w f n m K w.heap.size 0 v1 := ⟨_, b_g, by simp, fun k hk => absurd hk (by omega), hb⟩
  clear b_g hb
  go_wp2_with fail
  go_loopw [14] (fun kv wr => ∃ i : Nat, i ≤ n ∧ kv = .int .i64 (i : Int) ∧ BuO w f n m K w.heap.size i wr) (fun kv _ => n - (intOf kv).toNat)
  case atStart => exact ⟨0, by omega, rfl, hr0⟩
  case round =>
    clear hr0
    obtain ⟨i, hi, rfl, cs, b_g, hcs, hrw, hb⟩ := hrel
    rcases (show n = i ∨ i < n by omega) with hin | hin
    · subst hin
      have hmn : Mn wr (some ⟨w.heap.size, 0, none⟩) n n (mo2 f n m) K := ⟨mo2_len _ _ _, Nat.le_refl _, by omega, fun _ => ⟨_, 0, rfl, b_g.lt, fun k hk => by
        obtain ⟨gk, h1, h2, h3, h4⟩ := hrw k (by rw [mo2_len] at hk; exact hk)
        rw [mo2_row, Nat.zero_add]
        have hp := (h4.po (B := 0) (Nat.zero_le _)).pn
        rw [List.length_map, List.length_range] at hp
        exact ⟨_, m, m, (b_g.at_ h1).al, hp⟩⟩⟩
      clear b_g hrw hcs
      go_wp2
      go_ret
      exact ⟨_, _, rfl, hmn, hb⟩
    · obtain ⟨u0, hu0⟩ : ∃ u, cs[i]? = some u := ⟨_, List.getElem?_eq_getElem (by omega)⟩
      have HCS := Lib.hid hcs; have HRW := Lib.hid hrw; have HU0 := Lib.hid hu0
      have hgl := b_g.lt
      clear hcs hrw hu0
      go_upto_region 6 with (at_make; refine wp_makeR rfl _ _ rfl m K _ _ rfl rfl rfl rfl (by omega) ?_; intro v2 p_r hb2; have b_g2 := b_g.keep hb2; have q := (b_g2.at_ HU0.out).al; have f0 := b_g2.fr i)
      obtain ⟨hs, b_g3⟩ := b_g2.set (k := i) (A := some ⟨wr.heap.size, 0, none⟩) (n := m) (c := m) (by rw [HCS.out]; exact hin)
      have hr1 : BuI w f n m K w.heap.size wr.heap.size i 0 (v2.setCell ⟨w.heap.size, i, none⟩ (.slice (some ⟨wr.heap.size, 0, none⟩) m m)) := by
        refine ⟨_, _, b_g3, by rw [List.length_set]; exact HCS.out, (HRW.out.keep hb2).set hs, fun j hj => ?_, ?_, hgl, p_r.sto (by omega) hs, by simp, rfl, ms1 hs (Nat.le_refl _) (bthen hb hb2)⟩
        · rw [List.getElem?_set_ne (by omega)]
          obtain ⟨gk, h1, _, h3, _⟩ := HRW.out j hj
          rw [h1]
          intro e
          injection e with e; injection e with e; injection e with e; injection e with e
          omega
        · rw [List.getElem?_set_self (by rw [HCS.out]; exact hin)]
      obtain ⟨gi, hgi⟩ : ∃ g, wr.heap.size = g := ⟨_, rfl⟩
      rw [hgi] at hr1 ⊢
      clear b_g b_g2 b_g3 p_r q f0 hs hb hb2 HCS HRW HU0 hgl hgi
      go_wp2_with fail
      go_loopw [23] (fun kv wx => ∃ k : Nat, k ≤ m ∧ kv = .int .i64 (k : Int) ∧ BuI w f n m K w.heap.size gi i k wx) (fun kv _ => m - (intOf kv).toNat)
      case atStart => exact ⟨0, by omega, rfl, hr1⟩
      case round =>
        clear hr1
        obtain ⟨k, hk, rfl, cs, L, b_g, hcs, hrw, hne, hci, hgl, p_r, hL, hLk, hb⟩ := hrel
        rcases (show m = k ∨ k < m by omega) with hkm | hkm
        · subst hkm
          have hLe : L = (List.range m).map (f i) := by rw [List.take_of_length_le (by omega), List.take_of_length_le (by simp)] at hLk; exact hLk
          subst hLe
          have hr2 : BuO w f n m K w.heap.size (i + 1) wr := ⟨cs, b_g, hcs, fun j hj => by
            rcases (show j < i ∨ j = i by omega) with h1 | h1
            · exact hrw j h1
            · subst h1; exact ⟨gi, hci, hgl, p_r.lt, p_r⟩, hb⟩
          clear b_g hcs hrw hne hci hgl p_r hL hLk hb
          go_wp2_with fail
          exact ⟨⟨i + 1, by omega, by go_num, hr2⟩, by simp [intOf]; omega⟩
        · have hkL : k < L.length := by omega
          have hst : ∀ X, X = f i k → (L.set k X).take (k + 1) = ((List.range m).map (f i)).take (k + 1) := fun X hX => by
            rw [List.take_add_one, List.take_add_one, List.take_set_of_le (Nat.le_refl k), hLk, List.getElem?_set_self (by omega), List.getElem?_map, List.getElem?_range hkm, hX]; rfl
          obtain ⟨Y, hY⟩ : ∃ Y, f i k = Y := ⟨_, rfl⟩
          have HST := Lib.hid (hst Y hY.symm); have HY := Lib.hid hY
          have HKL := Lib.hid hkL; have HL := Lib.hid hL; have HLL := Lib.hid hcs; have HCI := Lib.hid hci; have HNE := Lib.hid hne; have HRW := Lib.hid hrw
          have HCALL := Lib.hid (fun wz hz => HC.out wz i k hin hkm hz)
          clear hst hY hkL hL hLk hcs hci hne hrw
          have q := (b_g.at_ HCI.out).al
          obtain ⟨A9, n9, c9, x_t, _⟩ := p_r.ec (k := k) HKL.out
          generalize L[k] = X9 at *
          have q_t := x_t.al
          have f0 := p_r.fr (k * 2); have f1 := p_r.fr (k * 2 + 1)
          go_upto_region 9 with fail
          go_region_law (first | (go_simp; (with_reducible refine (HCALL.out _ (below_drew hb)).mono ?_); rintro e v5 ⟨A8, n8, c8, rfl, z8, hb5⟩; rw [HY.out] at z8 ⊢; replace hb5 := undrew hb5; replace HRW := Lib.hid (HRW.out.keep hb5); obtain ⟨b_g, p_r, x_t, hb⟩ := mv4 hb5 b_g p_r x_t hb; clear hb5; replace q := (b_g.at_ HCI.out).al; replace q_t := x_t.al; replace f0 := p_r.fr (k * 2); replace f1 := p_r.fr (k * 2 + 1)))
          all_goals
            go_wp2_with fail
            obtain ⟨hs, hp2⟩ := p_r.set (k := k) HKL.out z8
            refine ⟨⟨k + 1, by omega, by go_num, cs, _, b_g.sto (by omega) hs, HLL.out, HRW.out.sto HNE.out hs, HNE.out, HCI.out, hgl, hp2, by rw [List.length_set]; exact HL.out, HST.out, ms1 hs (by omega) hb⟩, by simp [intOf]; omega⟩
end Go.Proofs.YtbpamkpclofnbaaGreat
