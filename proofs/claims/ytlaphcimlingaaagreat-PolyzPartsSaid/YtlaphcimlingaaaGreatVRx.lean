/-
  the document: Exact, ExactAll, of numbers as they stand.
-/
import Derived.Test.YtlaphcimlingaaaGreatVpush
import Derived.Test.YtlaphcimlingaaaGreatPe
import Derived.Test.YtlaphcimlingaaaGreatVpol
namespace Go.Proofs.YtlaphcimlingaaaGreat
open Go.RowKit
open MP.Se (nf co)
set_option linter.unusedVariables false
set_option maxRecDepth 100000

/-- The slice '.slice A n c' of integers stands so: of each its sign and its limbs. -/
def Pr (w : World) (A : Option Addr) (n c : Nat) (R : List (Bool × List Int)) : Prop :=
  R.length = n ∧ n ≤ c ∧ n ≤ 100000 ∧ (0 < n → ∃ d o, A = some ⟨d, o, none⟩ ∧ d < w.heap.size ∧ ∀ k (hk : k < R.length), ∃ A' m c', w.cell? ⟨d, o + k * 2, none⟩ = some (.bool R[k].1) ∧ w.cell? ⟨d, o + k * 2 + 1, none⟩ = some (.slice A' m c') ∧ Rd w w.heap.size A' m c' R[k].2)
section
variable {w v W : World} {g B n c J K : Nat} {A : Option Addr} {l : List Int} {R : List (Bool × List Int)}
theorem Pr.len (p : Pr w A n c R) : R.length = n := p.1
theorem Pr.big (p : Pr w A n c R) : n ≤ 100000 := p.2.2.1
theorem Pr.keep (p : Pr W A n c R) (hb : Below W.heap.size W v) : Pr v A n c R := ⟨p.1, p.2.1, p.2.2.1, fun hn => by
  obtain ⟨d, o, e, hd, hc⟩ := p.2.2.2 hn
  refine ⟨d, o, e, Nat.lt_of_lt_of_le hd hb.size, fun k hk => ?_⟩
  obtain ⟨A', m, c', h1, h2, h3⟩ := hc k hk
  exact ⟨A', m, c', (hb.cell (p := ⟨d, o + k * 2, none⟩) hd).trans h1, (hb.cell (p := ⟨d, o + k * 2 + 1, none⟩) hd).trans h2, (h3.below hb).more hb.size⟩⟩
instance : Mv (Pr W A n c R) W v (Pr v A n c R) := ⟨fun x y => x.keep y⟩
theorem Pr.ec (p : Pr w A n c R) {k : Nat} (hk : k < n) : ∃ d o A' m c', A = some ⟨d, o, none⟩ ∧ Ec w d (o + k * 2) (R[k]'(by have := p.1; omega)).1 A' m c' ∧ Rd w w.heap.size A' m c' (R[k]'(by have := p.1; omega)).2 := by
  obtain ⟨d, o, e, hd, hc⟩ := p.2.2.2 (by omega)
  obtain ⟨A', m, c', h1, h2, h3⟩ := hc k (by have := p.1; omega)
  exact ⟨d, o, A', m, c', e, ⟨hd, h1, h2⟩, h3⟩
/-- What is read stands somehow. -/
theorem Pd.raw (h : Pd w w.heap.size A n c l J) : ∃ R, Pr w A n c R ∧ l = R.map (fun r => zi r.1 (vl Wd r.2)) ∧ ∀ r ∈ R, r.2.length ≤ J := by
  by_cases hn : 0 < n
  · obtain ⟨d, o, e, hd, hc⟩ := h.at_ hn
    have key : ∀ m, m ≤ l.length → ∃ R : List (Bool × List Int), R.length = m ∧ (∀ k (hk : k < R.length), ∃ A' m c', w.cell? ⟨d, o + k * 2, none⟩ = some (.bool R[k].1) ∧ w.cell? ⟨d, o + k * 2 + 1, none⟩ = some (.slice A' m c') ∧ Rd w w.heap.size A' m c' R[k].2) ∧ l.take m = R.map (fun r => zi r.1 (vl Wd r.2)) ∧ ∀ r ∈ R, r.2.length ≤ J := fun m hm => by
      induction m with
      | zero => exact ⟨[], rfl, fun k hk => absurd hk (by simp), rfl, by simp⟩
      | succ m ih =>
        obtain ⟨R, h1, h2, h3, h4⟩ := ih (by omega)
        obtain ⟨b, A', n', c', g1, g2, L, g3, g4, g5⟩ := hc m (by omega)
        refine ⟨R ++ [(b, L)], by simp [h1], fun k hk => ?_, ?_, ?_⟩
        · by_cases hkm : k < R.length
          · rw [List.getElem_append_left hkm]; exact h2 k hkm
          · obtain rfl : k = m := by simp at hk; omega
            rw [List.getElem_append_right (by omega)]
            simp only [h1, Nat.sub_self, List.getElem_cons_zero]
            exact ⟨A', n', c', g1, g2, g3⟩
        · rw [List.take_add_one, h3, List.getElem?_eq_getElem (by omega), List.map_append, ← g4]; rfl
        · intro r hr
          rcases List.mem_append.1 hr with hr | hr
          · exact h4 r hr
          · simp at hr; subst hr; exact g3.len ▸ g5
    obtain ⟨R, h1, h2, h3, h4⟩ := key l.length (Nat.le_refl _)
    rw [List.take_length] at h3
    exact ⟨R, ⟨by rw [h1]; exact h.len, h.cap, h.big, fun _ => ⟨d, o, e, hd, h2⟩⟩, h3, h4⟩
  · have := h.len
    obtain rfl : l = [] := List.eq_nil_of_length_eq_zero (by omega)
    exact ⟨[], ⟨by simp; omega, h.cap, h.big, fun h0 => absurd h0 hn⟩, rfl, by simp⟩
/-- What stands is read. -/
theorem Pr.pd (p : Pr w A n c R) (hJ : ∀ r ∈ R, r.2.length ≤ J) : Pd w w.heap.size A n c (R.map fun r => zi r.1 (vl Wd r.2)) J := ⟨by simp [p.1], p.2.1, p.2.2.1, fun hn => by
  obtain ⟨d, o, e, hd, hc⟩ := p.2.2.2 hn
  refine ⟨d, o, e, hd, fun k hk => ?_⟩
  rw [List.length_map] at hk
  obtain ⟨A', m, c', h1, h2, h3⟩ := hc k hk
  exact ⟨_, A', m, c', h1, h2, _, h3, by rw [List.getElem_map], by have := hJ _ (List.getElem_mem hk); rw [h3.len] at this; exact this⟩⟩
end
theorem RExactR_any {A A2 : Option Addr} {n c n2 c2 : Nat} {b1 b2 : Bool} {lx ly : List Int} {w : World} (g : Rd w w.heap.size A n c lx) (g2 : Rd w w.heap.size A2 n2 c2 ly) :
    Calls Tryz.prog 34 #[.agg #[.bool b1, .slice A n c], .agg #[.bool b2, .slice A2 n2 c2]] w fun e w' => e = .returned (.bool (decide ((b1, lx) = (b2, ly)))) ∧ Below w.heap.size w w' := by
  have hl := g.len; have hl2 := g2.len
  have hbg := g.big; have hbg2 := g2.big
  obtain ⟨β, hβ⟩ : ∃ β, decide ((b1, lx) = (b2, ly)) = β := ⟨_, rfl⟩
  have HB := Lib.hid hβ
  rw [hβ]
  by_cases hs : b1 = b2
  · by_cases hn : n = n2
    · subst hn
      have hend : Hid (lx = ly → β = true) := Lib.hid fun h => by rw [← hβ, h, hs]; simp
      have hne : Hid (∀ i (h1 : i < lx.length) (h2 : i < ly.length), lx[i] ≠ ly[i] → β = false) := Lib.hid fun i h1 h2 h => by
        rw [← hβ, decide_eq_false_iff_not]; intro e; injection e with _ e; subst e; exact h rfl
      obtain rfl := hs
      generalize b1 = b at *
      have HL := Lib.hid hl; have HL2 := Lib.hid hl2
      have G := Lib.hid g; have G2 := Lib.hid g2
      clear hβ hl hl2 HB g g2
      go_enter Tryz.func34, Tryz.ntmps34
      go_upto_region 1 with fail
      refine al2 fun v1 hb x_a x_b => ?_
      replace x_a := Bx.of x_a; replace x_b := Bx.of x_b
      have q_a := x_a.al; have q_b := x_b.al
      go_wp2_with fail
      clear q_a q_b
      go_loopw [5] (fun kv wr => ∃ i : Nat, i ≤ n ∧ kv = .int .i64 (i : Int) ∧ Hid (∀ j (h1 : j < lx.length) (h2 : j < ly.length), j < i → lx[j] = ly[j]) ∧ Below v1.heap.size v1 wr) (fun kv _ => n - (intOf kv).toNat)
      case atStart => exact ⟨0, by omega, rfl, Lib.hid fun _ _ _ h => absurd h (by omega), Below.refl _ _⟩
      case round =>
        obtain ⟨i, hi, rfl, heq, hb1⟩ := hrel
        have x_a' := x_a.keep hb1; have x_b' := x_b.keep hb1
        have q_a := x_a'.al; have q_b := x_b'.al
        have hbb := bthen hb hb1
        rcases (show n = i ∨ i < n by omega) with hin | hin
        · subst hin
          have hte : Hid (β = true) := Lib.hid (hend.out (List.ext_getElem (by rw [HL.out, HL2.out]) fun j h1 h2 => heq.out j h1 h2 (by have := HL.out; omega)))
          clear heq
          go_wp2
          go_ret
          exact ⟨by rw [hte.out]; rfl, hbb⟩
        · have g := (G.out.below (hb.mono (Nat.le_refl _))).below (hb1.mono hb.size); have g2 := (G2.out.below (hb.mono (Nat.le_refl _))).below (hb1.mono hb.size)
          obtain ⟨d, o, rfl, hd, hc⟩ := g.at_ (by omega)
          obtain ⟨d2, o2, rfl, hd2, hc2⟩ := g2.at_ (by omega)
          have hi1 : i < lx.length := by have := HL.out; omega
          have hi2 : i < ly.length := by have := HL2.out; omega
          have cx := hc i hi1; have cy := hc2 i hi2
          have hnx := hne.out i hi1 hi2
          have hnxt : Hid (lx[i] = ly[i] → ∀ j (h1 : j < lx.length) (h2 : j < ly.length), j < i + 1 → lx[j] = ly[j]) := Lib.hid fun e j h1 h2 hj => by
            rcases (show j < i ∨ j = i by omega) with h | h
            · exact heq.out j h1 h2 h
            · subst h; exact e
          have HNX := Lib.hid hnx
          clear hc hc2 hnx heq g g2
          generalize lx[i] = x at *
          generalize ly[i] = y at *
          by_cases hxy : x = y
          · have hq := Lib.hid (hnxt.out hxy)
            subst hxy
            clear hnxt HNX
            go_upto_region 6 with fail
            go_region_held3 (fun w' => w'.cell? ⟨w.heap.size, 1, none⟩ = some (.slice (some ⟨d, o, none⟩) n c) ∧ w'.cell? ⟨w.heap.size + 1, 1, none⟩ = some (.slice (some ⟨d2, o2, none⟩) n c2) ∧ w'.cell? ⟨d, o + i, none⟩ = some (.int .u64 x) ∧ w'.cell? ⟨d2, o2 + i, none⟩ = some (.int .u64 x))
              (first | (with_reducible exact ⟨x_a'.c1, x_b'.c1, cx, cy⟩) | go_keep)
              (fail)
            all_goals go_wp2
            exact ⟨⟨i + 1, by omega, by go_num, hq, below_drew hb1⟩, by simp [intOf]; omega⟩
          · have hf : Hid (β = false) := Lib.hid (HNX.out hxy)
            have hxy2 : (x == y) = false := by simpa using hxy
            clear hnxt HNX
            go_upto_region 6 with fail
            go_region_held3 (fun w' => w'.cell? ⟨w.heap.size, 1, none⟩ = some (.slice (some ⟨d, o, none⟩) n c) ∧ w'.cell? ⟨w.heap.size + 1, 1, none⟩ = some (.slice (some ⟨d2, o2, none⟩) n c2) ∧ w'.cell? ⟨d, o + i, none⟩ = some (.int .u64 x) ∧ w'.cell? ⟨d2, o2 + i, none⟩ = some (.int .u64 y))
              (first | (with_reducible exact ⟨x_a'.c1, x_b'.c1, cx, cy⟩) | go_keep)
              (fail)
            all_goals go_wp2
            all_goals go_ret
            all_goals exact ⟨by rw [hf.out]; rfl, below_drew hbb⟩
    · have hf : Hid (β = false) := Lib.hid (by rw [← hβ, decide_eq_false_iff_not]; intro e; injection e with _ e; subst e; exact hn (hl.symm.trans hl2))
      have hnn : ((n : Int) == n2) = false := by simp; omega
      clear g g2 hβ HB hl hl2 hn
      obtain rfl := hs
      generalize b1 = b at *
      go_enter Tryz.func34, Tryz.ntmps34
      go_upto_region 1 with fail
      refine al2 fun v1 hb x_a x_b => ?_
      replace x_a := Bx.of x_a; replace x_b := Bx.of x_b
      have q_a := x_a.al; have q_b := x_b.al
      go_wp2
      go_ret
      exact ⟨by rw [hf.out]; rfl, hb⟩
  · have hf : Hid (β = false) := Lib.hid (by rw [← hβ, decide_eq_false_iff_not]; intro e; injection e with e _; exact hs e)
    have hnn : (b1 == b2) = false := by simpa using hs
    clear g g2 hβ HB hl hl2 hs
    go_enter Tryz.func34, Tryz.ntmps34
    go_upto_region 1 with fail
    refine al2 fun v1 hb x_a x_b => ?_
    replace x_a := Bx.of x_a; replace x_b := Bx.of x_b
    have q_a := x_a.al; have q_b := x_b.al
    go_wp2
    go_ret
    exact ⟨by rw [hf.out]; rfl, hb⟩
theorem Rd.drw' {w : World} {B : Nat} {A : Option Addr} {n c : Nat} {l : List Int} (h : Rd w B A n c l) : Rd w.drew B A n c l := h
theorem RExactAllR_any {A A2 : Option Addr} {n c n2 c2 : Nat} {l l2 : List (Bool × List Int)} {w : World} (p : Pr w A n c l) (p2 : Pr w A2 n2 c2 l2) :
    Calls Tryz.prog 69 #[.slice A n c, .slice A2 n2 c2] w fun e w' => e = .returned (.bool (decide (l = l2))) ∧ Below w.heap.size w w' := by
  have hl := p.len; have hl2 := p2.len
  have hbg := p.big; have hbg2 := p2.big
  obtain ⟨β, hβ⟩ : ∃ β, decide (l = l2) = β := ⟨_, rfl⟩
  rw [hβ]
  by_cases hn : n = n2
  · subst hn
    have hend : Hid (l = l2 → β = true) := Lib.hid fun h => by rw [← hβ, decide_eq_true_eq]; exact h
    have hne : Hid (∀ i (h1 : i < l.length) (h2 : i < l2.length), l[i] ≠ l2[i] → β = false) := Lib.hid fun i h1 h2 h => by
      rw [← hβ, decide_eq_false_iff_not]; intro e; subst e; exact h rfl
    have HL := Lib.hid hl; have HL2 := Lib.hid hl2
    have G := Lib.hid p; have G2 := Lib.hid p2
    clear hβ hl hl2 p p2
    go_enter Tryz.func69, Tryz.ntmps69
    go_wp2_with fail
    go_loopw [5] (fun kv wr => ∃ i : Nat, i ≤ n ∧ kv = .int .i64 (i : Int) ∧ Hid (∀ j (h1 : j < l.length) (h2 : j < l2.length), j < i → l[j] = l2[j]) ∧ Below w.heap.size w wr) (fun kv _ => n - (intOf kv).toNat)
    case atStart => exact ⟨0, by omega, rfl, Lib.hid fun _ _ _ h => absurd h (by omega), Below.refl _ _⟩
    case round =>
      obtain ⟨i, hi, rfl, heq, hb⟩ := hrel
      rcases (show n = i ∨ i < n by omega) with hin | hin
      · subst hin
        have hte : Hid (β = true) := Lib.hid (hend.out (List.ext_getElem (by rw [HL.out, HL2.out]) fun j h1 h2 => heq.out j h1 h2 (by have := HL.out; omega)))
        clear heq
        go_wp2
        go_ret
        exact ⟨by rw [hte.out]; rfl, hb⟩
      · have hi1 : i < l.length := by have := HL.out; omega
        have hi2 : i < l2.length := by have := HL2.out; omega
        obtain ⟨d, o, A5, n5, c5, rfl, x_e, z⟩ := (G.out.keep hb).ec hin
        obtain ⟨d2, o2, A6, n6, c6, rfl, x_f, z2⟩ := (G2.out.keep hb).ec hin
        have HNX := Lib.hid (hne.out i hi1 hi2)
        have hnxt : Hid (l[i] = l2[i] → ∀ j (h1 : j < l.length) (h2 : j < l2.length), j < i + 1 → l[j] = l2[j]) := Lib.hid fun e j h1 h2 hj => by
          rcases (show j < i ∨ j = i by omega) with h | h
          · exact heq.out j h1 h2 h
          · subst h; exact e
        clear heq
        generalize l[i] = x at *
        generalize l2[i] = y at *
        have q_e := x_e.al; have q_f := x_f.al
        go_upto_region 6 with fail
        go_region_held3 (fun w' => w'.cell? ⟨d, o + i * 2, none⟩ = some (.bool x.1) ∧ w'.cell? ⟨d, o + i * 2 + 1, none⟩ = some (.slice A5 n5 c5) ∧ w'.cell? ⟨d2, o2 + i * 2, none⟩ = some (.bool y.1) ∧ w'.cell? ⟨d2, o2 + i * 2 + 1, none⟩ = some (.slice A6 n6 c6))
          (first | (with_reducible exact ⟨x_e.c0, x_e.c1, x_f.c0, x_f.c1⟩) | go_keep)
          (first | (go_at_call 34; (with_reducible refine (RExactR_any (b1 := x.1) (b2 := y.1) (Rd.drw' z) (Rd.drw' z2)).mono ?_); rintro e v2 ⟨rfl, hb1⟩; rw [show decide ((x.1, x.2) = (y.1, y.2)) = decide (x = y) from rfl]; replace hb1 := undrew hb1; replace x_e := x_e.keep hb1; replace x_f := x_f.keep hb1; replace hb := bthen hb hb1; clear hb1; replace q_e := x_e.al; replace q_f := x_f.al))
        by_cases hxy : x = y
        · have hq := Lib.hid (hnxt.out hxy)
          have hd9 : decide (x = y) = true := by simpa using hxy
          rw [hd9]
          clear hnxt HNX x_e x_f q_e q_f z z2 hd9 hxy
          go_wp2
          exact ⟨⟨i + 1, by omega, by go_num, hq, hb⟩, by simp [intOf]; omega⟩
        · have hf : Hid (β = false) := Lib.hid (HNX.out hxy)
          have hd9 : decide (x = y) = false := by simpa using hxy
          rw [hd9]
          clear hnxt HNX x_e x_f q_e q_f z z2 hd9 hxy
          go_wp2
          go_ret
          exact ⟨by rw [hf.out]; rfl, hb⟩
  · have hf : Hid (β = false) := Lib.hid (by rw [← hβ, decide_eq_false_iff_not]; intro e; subst e; exact hn (hl.symm.trans hl2))
    have hnn : ((n : Int) == n2) = false := by simp; omega
    clear hβ hl hl2 hn p p2
    go_enter Tryz.func69, Tryz.ntmps69
    go_wp2
    go_ret
    exact ⟨by rw [hf.out]; rfl, Below.refl _ _⟩
theorem LsameR_any {A A2 : Option Addr} {n c n2 c2 : Nat} {l l2 : List (Bool × List Int)} {w : World} (p : Pr w A n c l) (p2 : Pr w A2 n2 c2 l2) :
    Calls Tryz.prog 17 #[.slice A n c, .slice A2 n2 c2] w fun e w' => e = .returned (.bool (decide (l = l2))) ∧ Below w.heap.size w w' := by
  obtain ⟨β, hβ⟩ : ∃ β, decide (l = l2) = β := ⟨_, rfl⟩
  rw [hβ]
  have HB := Lib.hid hβ; clear hβ
  go_enter Tryz.func17, Tryz.ntmps17
  go_wp2_with fail
  with_reducible refine (RExactAllR_any p p2).mono ?_
  rintro e v1 ⟨rfl, hb⟩
  rw [HB.out]
  go_wp2
  go_ret
  exact ⟨rfl, hb⟩
end Go.Proofs.YtlaphcimlingaaaGreat
