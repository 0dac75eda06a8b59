/-
  polyz: Primitive.
-/
import Derived.Test.YtnidohbbimfpjaaVcon
import Derived.Test.YtnidohbbimfpjaaVshr
import Derived.Test.YtnidohbbimfpjaaVqr
namespace Go.Proofs.Ytnidohbbimfpjaa
open Go.RowKit
open MP.Se (nf co)
set_option linter.unusedVariables false
set_option maxRecDepth 100000

/-- What a list is divided by. -/
def pdL (l : List Int) : Int := if ldL l < 0 then -ctL l else ctL l
/-- A list without its content, its lead above 0. -/
def primL (l : List Int) : List Int := nf ((nf l).map (· / pdL l))
theorem ctL_le (l : List Int) (a : Nat) : ∀ x ∈ l, x ≠ 0 → l.foldl (fun a x => (Nat.gcd a.natAbs x.natAbs : Int)) (a : Int) ≠ 0 := by
  induction l generalizing a with
  | nil => intro x h; cases h
  | cons y l ih =>
    intro x hx h0
    rw [List.foldl_cons]
    rcases List.mem_cons.1 hx with rfl | hx
    · have hpos : 0 < Nat.gcd ((a : Int)).natAbs x.natAbs := Nat.gcd_pos_of_pos_right _ (by omega)
      clear ih
      have key : ∀ (m : List Int) (b : Nat), 0 < b → m.foldl (fun a x => (Nat.gcd a.natAbs x.natAbs : Int)) (b : Int) ≠ 0 := by
        intro m
        induction m with
        | nil => intro b hb; simp; omega
        | cons z m ih2 => intro b hb; rw [List.foldl_cons]; exact ih2 _ (Nat.gcd_pos_of_pos_left _ (by omega))
      exact key l _ hpos
    · exact ih _ x hx h0
theorem ctL_ne {l : List Int} (h : nf l ≠ []) : ctL l ≠ 0 := by
  have h1 : co l ≠ MP.Se.c 0 := fun e => h (MP.Se.nf_nil_iff.2 e)
  have : ∃ x ∈ l, x ≠ 0 := by
    apply Classical.byContradiction
    intro hn
    apply h1
    refine MP.Se.ext fun i => ?_
    have hz : (MP.Se.c 0) i = 0 := by cases i <;> rfl
    rw [hz]
    by_cases hi : i < l.length
    · rw [MP.Se.co_at hi]
      apply Classical.byContradiction
      intro h0
      exact hn ⟨_, List.getElem_mem hi, h0⟩
    · exact MP.Se.co_out (by omega)
  obtain ⟨x, hx, h0⟩ := this
  exact ctL_le l 0 x hx h0
theorem pdL_ne (l : List Int) : pdL l ≠ 0 ∨ nf l = [] := by
  by_cases h : nf l = []
  · exact .inr h
  · have := ctL_ne h
    refine .inl ?_
    rw [pdL]; split <;> omega
theorem PPrimitive_any {A : Option Addr} {n c J : Nat} {l : List Int} {w : World} (h : Pd w w.heap.size A n c l J) (hJ : J ≤ 800000) :
    Calls Try.prog 27 #[.slice A n c] w (OutP w (primL l) (J + 1)) := by
  have hpd := Lib.hid (pdL_ne l)
  have HD : Hid (primL l = nf ((nf l).map (· / pdL l))) := Lib.hid rfl
  obtain ⟨G, hG⟩ : ∃ G, ctL l = G := ⟨_, rfl⟩
  obtain ⟨D, hD⟩ : ∃ D, ldL l = D := ⟨_, rfl⟩
  obtain ⟨E, hE⟩ : ∃ E, pdL l = E := ⟨_, rfl⟩
  have hE2 : E = if D < 0 then -G else G := by rw [← hE, pdL, hG, hD]
  rw [hE] at hpd HD
  have HG := Lib.hid hG; have HDD := Lib.hid hD; have HE2 := Lib.hid hE2
  obtain ⟨M, hM⟩ : ∃ M, primL l = M := ⟨_, rfl⟩
  rw [hM] at HD ⊢
  replace h := h.pe
  clear hG hD hE hE2 hM
  go_enter Try.func27, Try.ntmps27
  go_wp2_with fail
  with_reducible refine (PContent_any h.pd (by omega)).mono ?_
  rintro e v1 ⟨A1, n1, c1, rfl, z1, hb⟩
  replace h := h.keep hb
  rw [HG.out] at z1
  rw [HG.out]
  go_upto_region 2 with fail
  have e_g : w.heap.size ≤ v1.heap.size := hb.size
  refine al1 fun v1 hb1 x_g => ?_
  replace x_g := Bx.of x_g
  obtain ⟨h, z1, hb⟩ := mv3 hb1 h z1 hb
  clear hb1
  have q_g := x_g.al
  go_wp2_with fail
  with_reducible refine (PLead_any h.pd (by omega)).mono ?_
  rintro e v2 ⟨b2, A2, n2, c2, rfl, z2, hb1⟩
  obtain ⟨x_g, h, z1, hb⟩ := mv4 hb1 x_g h z1 hb
  clear hb1
  replace q_g := x_g.al
  rw [HDD.out] at z2
  go_wp2_with fail
  with_reducible refine (ZSign_any z2 (by omega)).mono ?_
  rintro e v3 ⟨rfl, hb1⟩
  obtain ⟨x_g, h, z1, z2, hb⟩ := mv5 hb1 x_g h z1 z2 hb
  clear hb1
  replace q_g := x_g.al
  rcases (show D < 0 ∨ ¬ D < 0 by omega) with hs | hs
  · have hE : E = -G := by rw [HE2.out, if_pos hs]
    have hsg : sgnI D = -1 := by simp [sgnI, hs]
    rw [hsg]
    subst hE
    clear z2 hs hsg
    go_wp2_with fail
    with_reducible refine (ZNeg_any z1.zr J (Nat.le_refl _)).mono ?_
    rintro e v4 ⟨A3, n3, c3, rfl, z3, hb1⟩
    obtain ⟨x_g, h, z1, hb⟩ := mv4 hb1 x_g h z1 hb
    clear hb1
    replace q_g := x_g.al
    go_upto_region 4 with fail
    clear q_g
    refine x_g.st fun v5 hs hx => ?_
    obtain ⟨h, z1, z3, hb⟩ := ms4 hs ⟨by omega, trivial, trivial, by omega⟩ h z1 z3 hb
    replace x_g := hx; clear hx hs
    have q_g := x_g.al
    go_wp2_with fail
    have hbs := hb.size
    with_reducible refine (PShrink_any (K := J + 1) h.pd z3.zr hpd.out (Nat.le_refl _) (by omega) (by omega)).mono ?_
    rintro e v6 ⟨A9, m9, c9, rfl, p9, hb1⟩
    obtain ⟨x_g, h, z1, z3, hb⟩ := mv5 hb1 x_g h z1 z3 hb
    clear hb1
    replace q_g := x_g.al
    rw [← HD.out] at p9
    replace p9 := p9.more hbs
    go_wp2
    go_ret
    exact ⟨A9, m9, c9, rfl, p9, hb⟩
  · have hE : E = G := by rw [HE2.out, if_neg hs]
    have hsg : (sgnI D < 0) = False := by simp [sgnI, hs]; split <;> omega
    subst hE
    generalize sgnI D = S at *
    clear z2 hs
    go_wp2_with fail
    have hbs := hb.size
    with_reducible refine (PShrink_any (K := J + 1) h.pd z1.zr hpd.out (Nat.le_refl _) (by omega) (by omega)).mono ?_
    rintro e v4 ⟨A9, m9, c9, rfl, p9, hb1⟩
    obtain ⟨x_g, h, z1, hb⟩ := mv4 hb1 x_g h z1 hb
    clear hb1
    replace q_g := x_g.al
    rw [← HD.out] at p9
    replace p9 := p9.more hbs
    go_wp2
    go_ret
    exact ⟨A9, m9, c9, rfl, p9, hb⟩
end Go.Proofs.Ytnidohbbimfpjaa
