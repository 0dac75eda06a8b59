/-
  the document: Exact, ExactAll, Fits.
-/
import Derived.Test.YtnidohbbimfpjaaVmap
import Derived.Test.YtnidohbbimfpjaaVpush
import Derived.Test.YtnidohbbimfpjaaPe
namespace Go.Proofs.Ytnidohbbimfpjaa
open Go.RowKit
open MP.Se (nf co)
set_option linter.unusedVariables false
set_option maxRecDepth 100000

theorem dg_same {X Y : Int} (hs : ngB X = ngB Y) (h : dg Wd X.natAbs = dg Wd Y.natAbs) : X = Y := by
  have h1 : X.natAbs = Y.natAbs := by rw [← vl_dg Wd2 (n := X.natAbs), h, vl_dg Wd2]
  simp only [ngB, decide_eq_decide] at hs
  omega
theorem RExact_any {A A2 : Option Addr} {n c n2 c2 J J2 : Nat} {X Y : Int} {w : World} (z : Zn w A n c X J) (z2 : Zn w A2 n2 c2 Y J2) :
    Calls Try.prog 13 #[.agg #[.bool (ngB X), .slice A n c], .agg #[.bool (ngB Y), .slice A2 n2 c2]] w fun e w' => e = .returned (.bool (decide (X = Y))) ∧ Below w.heap.size w w' := by
  have hl := z.1.len; have hl2 := z2.1.len
  have hbg := z.1.big; have hbg2 := z2.1.big
  obtain ⟨β, hβ⟩ : ∃ β, decide (X = Y) = β := ⟨_, rfl⟩
  have HB := Lib.hid hβ
  rw [hβ]
  by_cases hs : ngB X = ngB Y
  · by_cases hn : n = n2
    · subst hn
      have hend : Hid (dg Wd X.natAbs = dg Wd Y.natAbs → β = true) := Lib.hid fun h => by rw [← hβ, decide_eq_true_eq]; exact dg_same hs h
      have hne : Hid (∀ i (h1 : i < (dg Wd X.natAbs).length) (h2 : i < (dg Wd Y.natAbs).length), (dg Wd X.natAbs)[i] ≠ (dg Wd Y.natAbs)[i] → β = false) := Lib.hid fun i h1 h2 h => by
        rw [← hβ, decide_eq_false_iff_not]; intro e; subst e; exact h rfl
      rw [hs]
      have g := z.1; have g2 := z2.1
      generalize dg Wd X.natAbs = lx at *
      generalize dg Wd Y.natAbs = ly at *
      generalize ngB Y = b at *
      have HL := Lib.hid hl; have HL2 := Lib.hid hl2
      have G := Lib.hid g; have G2 := Lib.hid g2
      clear z z2 hβ hs hl hl2 HB g g2
      go_enter Try.func13, Try.ntmps13
      go_upto_region 1 with fail
      refine al2 fun v1 hb x_a x_b => ?_
      replace x_a := Bx.of x_a; replace x_b := Bx.of x_b
      have q_a := x_a.al; have q_b := x_b.al
      go_wp2_with fail
      clear q_a q_b
      go_loopw [5] (fun kv wr => ∃ i : Nat, i ≤ n ∧ kv = .int .i64 (i : Int) ∧ Hid (∀ j (h1 : j < lx.length) (h2 : j < ly.length), j < i → lx[j] = ly[j]) ∧ Below v1.heap.size v1 wr) (fun kv _ => n - (intOf kv).toNat)
      case atStart => exact ⟨0, by omega, rfl, Lib.hid fun _ _ _ h => absurd h (by omega), Below.refl _ _⟩
      case round =>
        obtain ⟨i, hi, rfl, heq, hb1⟩ := hrel
        have x_a' := x_a.keep hb1; have x_b' := x_b.keep hb1
        have q_a := x_a'.al; have q_b := x_b'.al
        have hbb := bthen hb hb1
        rcases (show n = i ∨ i < n by omega) with hin | hin
        · subst hin
          have hte : Hid (β = true) := Lib.hid (hend.out (List.ext_getElem (by rw [HL.out, HL2.out]) fun j h1 h2 => heq.out j h1 h2 (by have := HL.out; omega)))
          clear heq
          go_wp2
          go_ret
          exact ⟨by rw [hte.out]; rfl, hbb⟩
        · have g := (G.out.below (hb.mono (Nat.le_refl _))).below (hb1.mono hb.size); have g2 := (G2.out.below (hb.mono (Nat.le_refl _))).below (hb1.mono hb.size)
          obtain ⟨d, o, rfl, hd, hc⟩ := g.at_ (by omega)
          obtain ⟨d2, o2, rfl, hd2, hc2⟩ := g2.at_ (by omega)
          have hi1 : i < lx.length := by have := HL.out; omega
          have hi2 : i < ly.length := by have := HL2.out; omega
          have cx := hc i hi1; have cy := hc2 i hi2
          have hnx := hne.out i hi1 hi2
          have hnxt : Hid (lx[i] = ly[i] → ∀ j (h1 : j < lx.length) (h2 : j < ly.length), j < i + 1 → lx[j] = ly[j]) := Lib.hid fun e j h1 h2 hj => by
            rcases (show j < i ∨ j = i by omega) with h | h
            · exact heq.out j h1 h2 h
            · subst h; exact e
          have HNX := Lib.hid hnx
          clear hc hc2 hnx heq g g2
          generalize lx[i] = x at *
          generalize ly[i] = y at *
          by_cases hxy : x = y
          · have hq := Lib.hid (hnxt.out hxy)
            subst hxy
            clear hnxt HNX
            go_upto_region 6 with fail
            go_region_held3 (fun w' => w'.cell? ⟨w.heap.size, 1, none⟩ = some (.slice (some ⟨d, o, none⟩) n c) ∧ w'.cell? ⟨w.heap.size + 1, 1, none⟩ = some (.slice (some ⟨d2, o2, none⟩) n c2) ∧ w'.cell? ⟨d, o + i, none⟩ = some (.int .u64 x) ∧ w'.cell? ⟨d2, o2 + i, none⟩ = some (.int .u64 x))
              (first | (with_reducible exact ⟨x_a'.c1, x_b'.c1, cx, cy⟩) | go_keep)
              (fail)
            all_goals go_wp2
            exact ⟨⟨i + 1, by omega, by go_num, hq, below_drew hb1⟩, by simp [intOf]; omega⟩
          · have hf : Hid (β = false) := Lib.hid (HNX.out hxy)
            have hxy2 : (x == y) = false := by simpa using hxy
            clear hnxt HNX
            go_upto_region 6 with fail
            go_region_held3 (fun w' => w'.cell? ⟨w.heap.size, 1, none⟩ = some (.slice (some ⟨d, o, none⟩) n c) ∧ w'.cell? ⟨w.heap.size + 1, 1, none⟩ = some (.slice (some ⟨d2, o2, none⟩) n c2) ∧ w'.cell? ⟨d, o + i, none⟩ = some (.int .u64 x) ∧ w'.cell? ⟨d2, o2 + i, none⟩ = some (.int .u64 y))
              (first | (with_reducible exact ⟨x_a'.c1, x_b'.c1, cx, cy⟩) | go_keep)
              (fail)
            all_goals go_wp2
            all_goals go_ret
            all_goals exact ⟨by rw [hf.out]; rfl, below_drew hbb⟩
    · have hf : Hid (β = false) := Lib.hid (by rw [← hβ, decide_eq_false_iff_not]; intro e; subst e; exact hn (hl.symm.trans hl2))
      have hnn : ((n : Int) == n2) = false := by simp; omega
      clear z z2 hβ HB hl hl2 hn
      rw [hs]
      generalize ngB Y = b at *
      clear hs
      go_enter Try.func13, Try.ntmps13
      go_upto_region 1 with fail
      refine al2 fun v1 hb x_a x_b => ?_
      replace x_a := Bx.of x_a; replace x_b := Bx.of x_b
      have q_a := x_a.al; have q_b := x_b.al
      go_wp2
      go_ret
      exact ⟨by rw [hf.out]; rfl, hb⟩
  · have hf : Hid (β = false) := Lib.hid (by rw [← hβ, decide_eq_false_iff_not]; intro e; exact hs (by rw [e]))
    have hnn : (ngB X == ngB Y) = false := by simpa using hs
    clear z z2 hβ HB hl hl2 hs
    generalize ngB X = b1 at *
    generalize ngB Y = b2 at *
    go_enter Try.func13, Try.ntmps13
    go_upto_region 1 with fail
    refine al2 fun v1 hb x_a x_b => ?_
    replace x_a := Bx.of x_a; replace x_b := Bx.of x_b
    have q_a := x_a.al; have q_b := x_b.al
    go_wp2
    go_ret
    exact ⟨by rw [hf.out]; rfl, hb⟩
/-- The slice '.slice A n c' of integers in normal form reads as l. -/
def Pn (w : World) (A : Option Addr) (n c : Nat) (l : List Int) (J : Nat) : Prop :=
  l.length = n ∧ n ≤ c ∧ n ≤ 100000 ∧ (0 < n → ∃ d o, A = some ⟨d, o, none⟩ ∧ d < w.heap.size ∧ ∀ k (hk : k < l.length), ∃ A' m c', w.cell? ⟨d, o + k * 2, none⟩ = some (.bool (ngB l[k])) ∧ w.cell? ⟨d, o + k * 2 + 1, none⟩ = some (.slice A' m c') ∧ Zn w A' m c' l[k] J)
section
variable {w v W : World} {g B n c J K : Nat} {A : Option Addr} {l : List Int} {s : Value}
theorem Pn.len (p : Pn w A n c l J) : l.length = n := p.1
theorem Pn.big (p : Pn w A n c l J) : n ≤ 100000 := p.2.2.1
theorem Pn.pd (p : Pn w A n c l J) : Pd w w.heap.size A n c l J := ⟨p.1, p.2.1, p.2.2.1, fun hn => by
  obtain ⟨d, o, e, hd, hc⟩ := p.2.2.2 hn
  refine ⟨d, o, e, hd, fun k hk => ?_⟩
  obtain ⟨A', m, c', h1, h2, z⟩ := hc k hk
  exact ⟨_, A', m, c', h1, h2, z.zr⟩⟩
theorem Pn.keep (p : Pn W A n c l J) (hb : Below W.heap.size W v) : Pn v A n c l J := ⟨p.1, p.2.1, p.2.2.1, fun hn => by
  obtain ⟨d, o, e, hd, hc⟩ := p.2.2.2 hn
  refine ⟨d, o, e, Nat.lt_of_lt_of_le hd hb.size, fun k hk => ?_⟩
  obtain ⟨A', m, c', h1, h2, z⟩ := hc k hk
  exact ⟨A', m, c', (hb.cell (p := ⟨d, o + k * 2, none⟩) hd).trans h1, (hb.cell (p := ⟨d, o + k * 2 + 1, none⟩) hd).trans h2, z.keep hb⟩⟩
instance : Mv (Pn W A n c l J) W v (Pn v A n c l J) := ⟨fun x y => x.keep y⟩
theorem Pn.ec (p : Pn w A n c l J) {k : Nat} (hk : k < n) : ∃ d o A' m c', A = some ⟨d, o, none⟩ ∧ Ec w d (o + k * 2) (ngB (l[k]'(by have := p.1; omega))) A' m c' ∧ Zn w A' m c' (l[k]'(by have := p.1; omega)) J := by
  obtain ⟨d, o, e, hd, hc⟩ := p.2.2.2 (by omega)
  obtain ⟨A', m, c', h1, h2, z⟩ := hc k (by have := p.1; omega)
  exact ⟨d, o, A', m, c', e, ⟨hd, h1, h2⟩, z⟩
theorem Pn.kto (p : Pn w A n c l J) (hK : J ≤ K) : Pn w A n c l K := ⟨p.1, p.2.1, p.2.2.1, fun hn => by
  obtain ⟨d, o, e, hd, hc⟩ := p.2.2.2 hn
  refine ⟨d, o, e, hd, fun k hk => ?_⟩
  obtain ⟨A', m, c', h1, h2, z⟩ := hc k hk
  exact ⟨A', m, c', h1, h2, z.kto hK⟩⟩
theorem Po.pn (p : Po w B A n c l J) : Pn w A n c l J := by
  rcases p with ⟨rfl, rfl, rfl, rfl⟩ | ⟨g, L, rfl, hg, rfl, hn, hp, rfl⟩
  · exact ⟨rfl, Nat.le_refl _, by omega, fun h => absurd h (by omega)⟩
  · refine ⟨by simp; omega, hn, by have := hp.len; omega, fun h0 => ⟨g, 0, rfl, hp.lt, fun k hk => ?_⟩⟩
    have hk2 : k < n ∧ k < L.length := by rw [List.length_take] at hk; omega
    obtain ⟨A, m, c, a1, a2, a3⟩ := hp.cells hk2.2
    rw [List.getElem_take, Nat.zero_add]
    exact ⟨A, m, c, a1, a2, a3⟩
theorem Gz.cz {J : Nat} : ∀ {l : List Int} {xs : List Value}, Cz w J xs l → xs.length = l.length * 2 ∧ ∀ k (hk : k < l.length), ∃ A n c, xs[k * 2]? = some (.bool (ngB l[k])) ∧ xs[k * 2 + 1]? = some (.slice A n c) ∧ Zn w A n c l[k] J
  | [], xs, h => by
    have e : xs = [] := h
    subst e
    exact ⟨rfl, fun k hk => absurd hk (by simp)⟩
  | X :: l, xs, h => by
    obtain ⟨A, n, c, ys, rfl, z, hc⟩ := h
    obtain ⟨h1, h2⟩ := Gz.cz hc
    refine ⟨by simp [h1]; omega, fun k hk => ?_⟩
    rcases k with _ | k
    · exact ⟨A, n, c, rfl, rfl, z⟩
    · obtain ⟨A', m, c', a1, a2, a3⟩ := h2 k (by simpa using hk)
      refine ⟨A', m, c', ?_, ?_, a3⟩
      · rw [show (k + 1) * 2 = k * 2 + 1 + 1 by omega]; exact a1
      · rw [show (k + 1) * 2 + 1 = k * 2 + 1 + 1 + 1 by omega]; exact a2
theorem Gz.pn (p : Gz w B J s l) (hl : l.length ≤ 100000) : ∃ A c, s = .slice A l.length c ∧ Pn w A l.length c l J := by
  rcases p with ⟨rfl, rfl⟩ | ⟨g, cap, xs, rfl, _, ho, hc⟩
  · exact ⟨none, 0, rfl, rfl, Nat.le_refl _, by simp, fun h => absurd h (by simp)⟩
  · have hlt := ho.lt
    obtain ⟨cur, h1, h2, h3, h4, h5, h6, h7⟩ := ho
    obtain ⟨_, hz⟩ := Gz.cz hc
    refine ⟨_, cap, rfl, rfl, h2, hl, fun _ => ⟨g, 0, rfl, hlt, fun k hk => ?_⟩⟩
    obtain ⟨A, m, c, a1, a2, a3⟩ := hz k hk
    have hrow : ∀ i, i < l.length * 2 → w.cell? ⟨g, i, none⟩ = xs[i]? := fun i hi => by
      rw [cell_of_row w g i cur _ (0, 0) h1, ← h5, List.getElem?_take, if_pos hi]; simp
    rw [Nat.zero_add]
    exact ⟨A, m, c, by rw [hrow _ (by omega)]; exact a1, by rw [hrow _ (by omega)]; exact a2, a3⟩
end
theorem Zn.drw' {w : World} {A : Option Addr} {n c k : Nat} {X : Int} (h : Zn w A n c X k) : Zn w.drew A n c X k := h
theorem RExactAll_any {A A2 : Option Addr} {n c n2 c2 J J2 : Nat} {l l2 : List Int} {w : World} (p : Pn w A n c l J) (p2 : Pn w A2 n2 c2 l2 J2) :
    Calls Try.prog 35 #[.slice A n c, .slice A2 n2 c2] w fun e w' => e = .returned (.bool (decide (l = l2))) ∧ Below w.heap.size w w' := by
  have hl := p.len; have hl2 := p2.len
  have hbg := p.big; have hbg2 := p2.big
  obtain ⟨β, hβ⟩ : ∃ β, decide (l = l2) = β := ⟨_, rfl⟩
  rw [hβ]
  by_cases hn : n = n2
  · subst hn
    have hend : Hid (l = l2 → β = true) := Lib.hid fun h => by rw [← hβ, decide_eq_true_eq]; exact h
    have hne : Hid (∀ i (h1 : i < l.length) (h2 : i < l2.length), l[i] ≠ l2[i] → β = false) := Lib.hid fun i h1 h2 h => by
      rw [← hβ, decide_eq_false_iff_not]; intro e; subst e; exact h rfl
    have HL := Lib.hid hl; have HL2 := Lib.hid hl2
    have G := Lib.hid p; have G2 := Lib.hid p2
    clear hβ hl hl2 p p2
    go_enter Try.func35, Try.ntmps35
    go_wp2_with fail
    go_loopw [5] (fun kv wr => ∃ i : Nat, i ≤ n ∧ kv = .int .i64 (i : Int) ∧ Hid (∀ j (h1 : j < l.length) (h2 : j < l2.length), j < i → l[j] = l2[j]) ∧ Below w.heap.size w wr) (fun kv _ => n - (intOf kv).toNat)
    case atStart => exact ⟨0, by omega, rfl, Lib.hid fun _ _ _ h => absurd h (by omega), Below.refl _ _⟩
    case round =>
      obtain ⟨i, hi, rfl, heq, hb⟩ := hrel
      rcases (show n = i ∨ i < n by omega) with hin | hin
      · subst hin
        have hte : Hid (β = true) := Lib.hid (hend.out (List.ext_getElem (by rw [HL.out, HL2.out]) fun j h1 h2 => heq.out j h1 h2 (by have := HL.out; omega)))
        clear heq
        go_wp2
        go_ret
        exact ⟨by rw [hte.out]; rfl, hb⟩
      · have hi1 : i < l.length := by have := HL.out; omega
        have hi2 : i < l2.length := by have := HL2.out; omega
        obtain ⟨d, o, A5, n5, c5, rfl, x_e, z⟩ := (G.out.keep hb).ec hin
        obtain ⟨d2, o2, A6, n6, c6, rfl, x_f, z2⟩ := (G2.out.keep hb).ec hin
        have HNX := Lib.hid (hne.out i hi1 hi2)
        have hnxt : Hid (l[i] = l2[i] → ∀ j (h1 : j < l.length) (h2 : j < l2.length), j < i + 1 → l[j] = l2[j]) := Lib.hid fun e j h1 h2 hj => by
          rcases (show j < i ∨ j = i by omega) with h | h
          · exact heq.out j h1 h2 h
          · subst h; exact e
        clear heq
        generalize l[i] = x at *
        generalize l2[i] = y at *
        have q_e := x_e.al; have q_f := x_f.al
        go_upto_region 6 with fail
        go_region_held3 (fun w' => w'.cell? ⟨d, o + i * 2, none⟩ = some (.bool (ngB x)) ∧ w'.cell? ⟨d, o + i * 2 + 1, none⟩ = some (.slice A5 n5 c5) ∧ w'.cell? ⟨d2, o2 + i * 2, none⟩ = some (.bool (ngB y)) ∧ w'.cell? ⟨d2, o2 + i * 2 + 1, none⟩ = some (.slice A6 n6 c6))
          (first | (with_reducible exact ⟨x_e.c0, x_e.c1, x_f.c0, x_f.c1⟩) | go_keep)
          (first | (go_at_call 13; (with_reducible refine (RExact_any (Zn.drw' z) (Zn.drw' z2)).mono ?_); rintro e v2 ⟨rfl, hb1⟩; replace hb1 := undrew hb1; replace x_e := x_e.keep hb1; replace x_f := x_f.keep hb1; replace hb := bthen hb hb1; clear hb1; replace q_e := x_e.al; replace q_f := x_f.al))
        by_cases hxy : x = y
        · have hq := Lib.hid (hnxt.out hxy)
          have hd9 : decide (x = y) = true := by simpa using hxy
          rw [hd9]
          clear hnxt HNX x_e x_f q_e q_f z z2 hd9 hxy
          go_wp2
          exact ⟨⟨i + 1, by omega, by go_num, hq, hb⟩, by simp [intOf]; omega⟩
        · have hf : Hid (β = false) := Lib.hid (HNX.out hxy)
          have hd9 : decide (x = y) = false := by simpa using hxy
          rw [hd9]
          clear hnxt HNX x_e x_f q_e q_f z z2 hd9 hxy
          go_wp2
          go_ret
          exact ⟨by rw [hf.out]; rfl, hb⟩
  · have hf : Hid (β = false) := Lib.hid (by rw [← hβ, decide_eq_false_iff_not]; intro e; subst e; exact hn (hl.symm.trans hl2))
    have hnn : ((n : Int) == n2) = false := by simp; omega
    clear hβ hl hl2 hn p p2
    go_enter Try.func35, Try.ntmps35
    go_wp2
    go_ret
    exact ⟨by rw [hf.out]; rfl, Below.refl _ _⟩
theorem Lsame_any {A A2 : Option Addr} {n c n2 c2 J J2 : Nat} {l l2 : List Int} {w : World} (p : Pn w A n c l J) (p2 : Pn w A2 n2 c2 l2 J2) :
    Calls Try.prog 22 #[.slice A n c, .slice A2 n2 c2] w fun e w' => e = .returned (.bool (decide (l = l2))) ∧ Below w.heap.size w w' := by
  obtain ⟨β, hβ⟩ : ∃ β, decide (l = l2) = β := ⟨_, rfl⟩
  rw [hβ]
  have HB := Lib.hid hβ; clear hβ
  go_enter Try.func22, Try.ntmps22
  go_wp2_with fail
  with_reducible refine (RExactAll_any p p2).mono ?_
  rintro e v1 ⟨rfl, hb⟩
  rw [HB.out]
  go_wp2
  go_ret
  exact ⟨rfl, hb⟩
theorem Lpoly_any {g n : Nat} {xs : List Int} {w : World} (hx : ∀ k (hk : k < xs.length), w.cell? ⟨g, k, none⟩ = some (.int .i64 xs[k])) (hg : g < w.heap.size) (hl : xs.length = n) (hn : n ≤ 100) (hbd : ∀ x ∈ xs, -9223372036854775808 ≤ x ∧ x ≤ 9223372036854775807) :
    Calls Try.prog 23 #[.slice (some ⟨g, 0, none⟩) n n] w fun e w' => ∃ A c, e = .returned (.slice A n c) ∧ Pn w' A n c xs 1 ∧ Below w.heap.size w w' := by
  have HX := Lib.hid hx; have HL := Lib.hid hl; have HBD := Lib.hid hbd
  clear hx hl hbd
  go_enter Try.func23, Try.ntmps23
  go_upto_region 2 with fail
  refine al1 fun v1 hb x_o => ?_
  have gz : Gz v1 w.heap.size 1 (.slice (some ⟨w.heap.size, 0, none⟩) 0 0) (xs.take 0) := .inr ⟨_, 0, [], rfl, Nat.le_refl _, ⟨#[], x_o, Nat.le_refl _, by unfold maxLen; omega, rfl, rfl, rfl, fun u hu => by cases hu⟩, by rw [List.take_zero]; rfl⟩
  clear x_o
  go_wp2_with fail
  go_loopw [3, 4] (fun sv kv wr => ∃ i : Nat, i ≤ n ∧ kv = .int .i64 (i : Int) ∧ Gz wr w.heap.size 1 sv (xs.take i) ∧ Below w.heap.size w wr) (fun _ kv _ => n - (intOf kv).toNat)
  case atStart => exact ⟨0, by omega, rfl, gz, hb⟩
  case round =>
    clear gz hb
    obtain ⟨i, hi, rfl, gz, hb⟩ := hrel
    rcases (show n = i ∨ i < n by omega) with hin | hin
    · subst hin
      rw [List.take_of_length_le (by rw [HL.out]; omega)] at gz
      obtain ⟨A, c, rfl, p⟩ := gz.pn (by rw [HL.out]; omega)
      rw [HL.out] at p
      rw [HL.out]
      clear gz
      go_wp2
      go_ret
      exact ⟨A, c, rfl, p, hb⟩
    · have hil : i < xs.length := by rw [HL.out]; exact hin
      have hc := (hb.cell (p := ⟨g, i, none⟩) hg).trans (HX.out i hil)
      have hxb := HBD.out _ (List.getElem_mem hil)
      have htk : Hid (xs.take i ++ [xs[i]] = xs.take (i + 1)) := Lib.hid (by rw [List.take_add_one, List.getElem?_eq_getElem hil]; rfl)
      have hln : (xs.take i).length ≤ 1000 := by rw [List.length_take]; omega
      generalize xs[i] = X at *
      generalize xs.take i = l at *
      go_wp2_with fail
      with_reducible refine (ROf_any X hxb.1 hxb.2).mono ?_
      rintro e v2 ⟨A2, n2, c2, rfl, z, hb1⟩
      replace gz := gz.keep hb1
      replace hb := bthen hb hb1
      have hs := hb.size
      clear hb1 hc
      go_wp2_with (at_builtin; refine wp_pushG (V := v2) rfl _ _ rfl rfl gz hln hs z rfl ?_; intro s' w' hpu)
      have hgz := hpu.1
      rw [htk.out] at hgz
      have hb2 := Gr.below hb hs gz hpu.2.1 (Nat.le_refl _)
      exact ⟨⟨i + 1, by omega, by go_num, hgz, hb2⟩, by simp [intOf]; omega⟩
/-- A slice of integers that came in, of any length. -/
def Pa (w : World) (A : Option Addr) (n c : Nat) (l : List Int) : Prop :=
  l.length = n ∧ n ≤ c ∧ n ≤ 17592186044416 ∧ (0 < n → ∃ d o, A = some ⟨d, o, none⟩ ∧ d < w.heap.size ∧ ∀ k (hk : k < l.length), El w d (o + k * 2) l[k] 17592186044416)
theorem Pa.keep {w v : World} {A : Option Addr} {n c : Nat} {l : List Int} (p : Pa w A n c l) (hb : Below w.heap.size w v) : Pa v A n c l := ⟨p.1, p.2.1, p.2.2.1, fun hn => by
  obtain ⟨d, o, e, hd, hc⟩ := p.2.2.2 hn
  exact ⟨d, o, e, Nat.lt_of_lt_of_le hd hb.size, fun k hk => (hc k hk).keep hd hb⟩⟩
instance {w v : World} {A : Option Addr} {n c : Nat} {l : List Int} : Mv (Pa w A n c l) w v (Pa v A n c l) := ⟨fun x y => x.keep y⟩
theorem RFits_any {A : Option Addr} {n c N M : Nat} {l : List Int} {w : World} (p : Pa w A n c l) (hN : N ≤ 1000) (hM : M ≤ 1000) :
    Calls Try.prog 17 #[.slice A n c, .int .i64 (N : Int), .int .i64 (M : Int)] w fun e w' => ∃ β, e = .returned (.bool β) ∧ (β = true → n ≤ N ∧ Pd w' w'.heap.size A n c l M) ∧ Below w.heap.size w w' := by
  have hl := p.1; have hbg := p.2.2.1
  have HL := Lib.hid hl; have H := Lib.hid p
  clear hl p
  by_cases hn : n ≤ N
  · go_enter Try.func17, Try.ntmps17
    go_wp2_with fail
    go_loopw [7] (fun kv wr => ∃ i : Nat, i ≤ n ∧ kv = .int .i64 (i : Int) ∧ Hid (∀ j (hj : j < l.length), j < i → ∀ d o, A = some ⟨d, o, none⟩ → El w d (o + j * 2) l[j] M) ∧ Below w.heap.size w wr) (fun kv _ => n - (intOf kv).toNat)
    case atStart => exact ⟨0, by omega, rfl, Lib.hid fun _ _ h => absurd h (by omega), Below.refl _ _⟩
    case round =>
      obtain ⟨i, hi, rfl, hel, hb⟩ := hrel
      rcases (show n = i ∨ i < n by omega) with hin | hin
      · subst hin
        have hpd : Hid (Pd w w.heap.size A n c l M) := Lib.hid ⟨H.out.1, H.out.2.1, by omega, fun h0 => by
          obtain ⟨d, o, e, hd, _⟩ := H.out.2.2.2 h0
          exact ⟨d, o, e, hd, fun k hk => hel.out k hk (by rw [← H.out.1]; exact hk) d o e⟩⟩
        clear hel
        go_wp2
        go_ret
        exact ⟨true, rfl, fun _ => ⟨hn, hpd.out.go hb⟩, hb⟩
      · have hil : i < l.length := by have := HL.out; omega
        obtain ⟨d, o, rfl, hd, hc⟩ := H.out.2.2.2 (by omega)
        obtain ⟨b5, A5, n5, c5, h1, h2, z⟩ := hc i hil
        have h2' := (hb.cell (p := ⟨d, o + i * 2 + 1, none⟩) hd).trans h2
        have hcap : n5 ≤ M → Hid (∀ j (hj : j < l.length), j < i + 1 → ∀ d' o', some (⟨d, o, none⟩ : Addr) = some ⟨d', o', none⟩ → El w d' (o' + j * 2) l[j] M) := fun h5 => Lib.hid fun j hj hji d' o' e => by
          rcases (show j < i ∨ j = i by omega) with h | h
          · exact hel.out j hj h d' o' e
          · subst h
            injection e with e; injection e with e1 e2; subst e1; subst e2
            obtain ⟨lz, a1, a2, a3⟩ := z
            exact ⟨b5, A5, n5, c5, h1, h2, lz, a1, a2, h5⟩
        have hc5 : n5 ≤ 17592186044416 := by obtain ⟨lz, a1, a2, a3⟩ := z; exact a3
        clear hc h1 h2 z hel
        rcases (show n5 ≤ M ∨ M < n5 by omega) with h5 | h5
        · have hnx := hcap h5
          have hgt : ¬ ((M : Int) < (n5 : Int)) := by omega
          clear hcap
          go_wp2
          exact ⟨⟨i + 1, by omega, by go_num, hnx, hb⟩, by simp [intOf]; omega⟩
        · have hgt : ((M : Int) < (n5 : Int)) := by omega
          clear hcap
          go_wp2
          go_ret
          exact ⟨false, rfl, (fun h => by cases h), hb⟩
  · have hgt : ((N : Int) < (n : Int)) := by omega
    go_enter Try.func17, Try.ntmps17
    go_wp2
    go_ret
    exact ⟨false, rfl, (fun h => by cases h), Below.refl _ _⟩
end Go.Proofs.Ytnidohbbimfpjaa
