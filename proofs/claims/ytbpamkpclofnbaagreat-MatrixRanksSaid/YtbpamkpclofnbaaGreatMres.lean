/-
  matrix: Resultant.
-/
import Derived.Test.YtbpamkpclofnbaaGreatMresc
import Derived.Test.YtbpamkpclofnbaaGreatVqr
import Derived.Test.YtbpamkpclofnbaaGreatVpg
import Derived.Test.YtbpamkpclofnbaaGreatVdiv
namespace Go.Proofs.YtbpamkpclofnbaaGreat
open Go.RowKit
open MP.Se (nf co)
set_option linter.unusedVariables false
set_option maxRecDepth 100000

/-- Both have odd degrees. -/
def bo2 (P Q : List Int) : Bool := decide (P.length % 2 = 0 ∧ Q.length % 2 = 0)
/-- What Resultant does, step by step, with numbers of at most B limbs: from P and Q, two scales and a sign, to X. -/
def RvR (B : Nat) : Nat → List Int → List Int → Int → Int → Bool → Int → Prop
  | 0, _, _, _, _, _, _ => False
  | N + 1, P, Q, f, s, ng, X => (Q = [] ∧ X = 0) ∨ (∃ c, Q = [c] ∧ s ≠ 0 ∧ 1 ≤ P.length ∧ X = if ng then -(rsc s c (P.length - 1)) else rsc s c (P.length - 1)) ∨
    ∃ (r Q2 : List Int) (u : MP.Se) (f2 s2 : Int) (d gap : Nat), (Q.length = d + 1 ∧ 1 ≤ d ∧ P.length = d + 1 + gap ∧ MP.Se.Nm r) ∧ (MP.Se.Fn u ∧ MP.Se.sm ((co Q) d ^ (gap + 1)) (co P) = co Q * u + co r ∧ MP.Se.Bd (co r) d) ∧
      (f * s ^ gap ≠ 0 ∧ co r = MP.Se.sm (f * s ^ gap) (co Q2) ∧ MP.Se.Nm Q2 ∧ f2 = (co Q) d) ∧ (s ≠ 0 ∧ s2 = rsc s f2 gap) ∧
      ((∀ x ∈ Q2, Si x B) ∧ Si f2 B ∧ Si s2 B) ∧ RvR B N Q Q2 f2 s2 (ng != bo2 P Q) X
theorem one_c (D : Int) : co [D] = MP.Se.c D := MP.Se.ext fun i => by cases i <;> simp [co, MP.Se.c]
/-- What Divide hands back. -/
theorem dv_is {r L Q2 : List Int} {D : Int} (hD : D ≠ 0) (h : co r = MP.Se.sm D (co Q2)) (hN : MP.Se.Nm Q2) (hL : MP.Se.Nm L) (e : co r = co [D] * co L) : L = Q2 := by
  refine MP.Se.nm_ext hL hN (MP.Se.ext fun i => ?_)
  rw [one_c, MP.Se.c_mul] at e
  have := congrArg (fun f => f i) (e.symm.trans h)
  simp only [MP.Se.sm_at] at this
  exact Int.eq_of_mul_eq_mul_left hD this
theorem dv_yes {r Q2 : List Int} {D : Int} (h : co r = MP.Se.sm D (co Q2)) : MP.Se.Dv (co [D]) (co r) := ⟨co Q2, MP.Se.co_fn _, by rw [one_c, MP.Se.c_mul]; exact h⟩
theorem dv_ne {D : Int} (hD : D ≠ 0) : co [D] ≠ MP.Se.c 0 := fun e => hD (by have := congrArg (fun f => f 0) e; simpa [co, MP.Se.c] using this)
/-- What the loop of Resultant keeps. -/
def RvI (w : World) (B : Nat) (X : Int) (g4 g6 : Nat) (pv qv nv : Value) (wr : World) : Prop :=
  ∃ N A n c A2 n2 c2 P Q f s ng, pv = .slice A n c ∧ qv = .slice A2 n2 c2 ∧ nv = .bool ng ∧ RvR B N P Q f s ng X ∧ Pq wr g6 A n c P B ∧ Pq wr g6 A2 n2 c2 Q B ∧ MP.Se.Nm P ∧ MP.Se.Nm Q ∧ n ≤ 30 ∧ n2 ≤ 30 ∧
    (∃ b A n c, Bx wr g6 b A n c ∧ Zr wr b A n c f B) ∧ (∃ A n c, Bx wr (g6 + 1) (ngB s) A n c ∧ Zn wr A n c s B) ∧ Bx wr g4 false none 0 0 ∧ Below w.heap.size w wr
theorem Pq.ec {w : World} {g n c J : Nat} {A : Option Addr} {l : List Int} (h : Pq w g A n c l J) {k : Nat} (hk : k < l.length) : ∃ d o b A' n' c', A = some ⟨d, o, none⟩ ∧ d < w.heap.size ∧ Ec w d (o + k * 2) b A' n' c' ∧ Zr w b A' n' c' l[k] J :=
  Pe.ec (B := w.heap.size) ⟨Nat.le_refl _, h.pd⟩ (by have := h.len; omega)
set_option maxHeartbeats 16000000 in
theorem MResultant_any {A A2 : Option Addr} {n c n2 c2 B N : Nat} {l l2 : List Int} {X : Int} {w : World} (h : Pd w w.heap.size A n c l B) (h2 : Pd w w.heap.size A2 n2 c2 l2 B) (hn : n ≤ 30) (hn2 : n2 ≤ 30) (hB : B ≤ 200) (hB1 : 1 ≤ B)
    (hR : if (nf l).length < (nf l2).length then RvR B N (nf l2) (nf l) 1 1 (bo2 (nf l2) (nf l)) X else RvR B N (nf l) (nf l2) 1 1 false X) :
    Calls Tryz.prog 47 #[.slice A n c, .slice A2 n2 c2] w (OutZ w X (30 * (B + 2) + 1)) := by
  have hl1 := MP.Se.nf_len l; have hl2 := MP.Se.nf_len l2
  have hll := h.len; have hll2 := h2.len
  have hP := MP.Se.nm_nf l; have hQ := MP.Se.nm_nf l2
  replace h := h.pe; replace h2 := h2.pe
  obtain ⟨P, hPe⟩ : ∃ P, nf l = P := ⟨_, rfl⟩
  obtain ⟨Q, hQe⟩ : ∃ P, nf l2 = P := ⟨_, rfl⟩
  rw [hPe] at hP hR hl1; rw [hQe] at hQ hR hl2
  have HP := Lib.hid hPe; have HQ := Lib.hid hQe
  have hPl : P.length ≤ 30 := by omega
  have hQl : Q.length ≤ 30 := by omega
  clear hPe hQe hl1 hl2 hll hll2 hn hn2
  go_enter Tryz.func47, Tryz.ntmps47
  go_upto_region 1 with fail
  refine al1 fun v1 hb x_r => ?_
  replace x_r := Bx.of x_r
  obtain ⟨h, h2⟩ := mv2 hb h h2
  obtain ⟨g4, hg4⟩ : ∃ g, w.heap.size = g := ⟨_, rfl⟩
  have hgw4 := Nat.le_of_eq hg4
  rw [hg4] at x_r
  simp only [hg4]
  go_wp2_with fail
  with_reducible refine (PNorm_any h.pd (by omega)).mono ?_
  rintro e v2 ⟨A3, n3, c3, rfl, p3, hb1⟩
  rw [HP.out] at p3
  obtain ⟨h2, x_r, hb⟩ := mv3 hb1 h2 x_r hb
  clear hb1 h
  go_wp2_with fail
  with_reducible refine (PNorm_any h2.pd (by omega)).mono ?_
  rintro e v3 ⟨A4, n4, c4, rfl, p4, hb1⟩
  rw [HQ.out] at p4
  replace p3 := p3.keep hb1
  obtain ⟨x_r, hb⟩ := mv2 hb1 x_r hb
  clear hb1 h2
  have hp3 : Pe v3 v3.heap.size A3 n3 c3 P B := ⟨Nat.le_refl _, p3.pd⟩
  have hp4 : Pe v3 v3.heap.size A4 n4 c4 Q B := ⟨Nat.le_refl _, p4.pd⟩
  have hl3 := hp3.2.len; have hl4 := hp4.2.len
  have hs3 := hb.size
  have hg43 := x_r.lt
  clear p3 p4
  subst hl3; subst hl4
  rcases (show P.length < Q.length ∨ ¬ P.length < Q.length by omega) with hlt | hlt
  · rw [if_pos hlt] at hR
    go_wp2_with fail
    with_reducible refine MbothOdd_any.mono ?_
    rintro e v4 ⟨rfl, hb1⟩
    rw [show decide (Q.length % 2 = 0 ∧ P.length % 2 = 0) = bo2 Q P from rfl]
    obtain ⟨hp3, hp4, x_r, hb⟩ := mv4 hb1 hp3 hp4 x_r hb
    clear hb1
    go_wp2_with fail
    with_reducible refine (ZOf_any 1 (by omega) (by omega)).mono ?_
    rintro e v5 ⟨A5, n5, c5, rfl, z5, hb1⟩
    obtain ⟨hp3, hp4, x_r, hb⟩ := mv4 hb1 hp3 hp4 x_r hb
    clear hb1
    go_wp2_with fail
    with_reducible refine (ZOf_any 1 (by omega) (by omega)).mono ?_
    rintro e v6 ⟨A6, n6, c6, rfl, z6, hb1⟩
    obtain ⟨hp3, hp4, x_r, z5, hb⟩ := mv5 hb1 hp3 hp4 x_r z5 hb
    have hs6 := hb1.size
    clear hb1
    go_wp2_with fail
    refine al2 fun v7 hb1 x_f x_s => ?_
    replace x_f := Bx.of x_f; replace x_s := Bx.of x_s
    have hgw := Nat.le_trans hp3.1 (Nat.le_refl _)
    have hg46 := x_r.lt
    obtain ⟨hp3, hp4, x_r, z5, z6, hb⟩ := mv6 hb1 hp3 hp4 x_r z5 z6 hb
    clear hb1
    obtain ⟨g6, hg6⟩ : ∃ g, v6.heap.size = g := ⟨_, rfl⟩
    rw [hg6] at x_f x_s hgw hg46
    simp only [hg6]
    clear hg6
    have hgl := x_f.lt
    have hr0 : RvI w B X g4 g6 (.slice A4 Q.length c4) (.slice A3 P.length c3) (.bool (bo2 Q P)) v7 := ⟨N, _, _, _, _, _, _, _, _, _, _, _, rfl, rfl, rfl, hR, hp4.2.pq hgw (by omega), hp3.2.pq hgw (by omega), hQ, hP, hQl, hPl, ⟨_, _, _, _, x_f, z5.zr.kto hB1⟩, ⟨_, _, _, x_s, z6.kto hB1⟩, x_r, hb⟩
    clear hp3 hp4 hR hP hQ hPl hQl x_f x_s x_r z5 z6 hb hlt
    go_loopw [0, 1, 5] (fun pv qv nv wr => RvI w B X g4 g6 pv qv nv wr) (fun _ qv _ _ => lenOf qv)
    case atStart => exact hr0
    case round =>
      clear hr0
      obtain ⟨N9, A7, n7, c7, A8, n8, c8, P9, Q9, f, s, ng, rfl, rfl, rfl, hR, h, h2, hP, hQ, hn, hn2, ⟨bf, Af, nf9, cf, x_f, z_f⟩, ⟨As, ns, cs, x_s, z_s⟩, x_r, hb⟩ := hrel
      have hl := h.len; have hl2 := h2.len
      rcases N9 with _ | N9
      · exact hR.elim
      rcases hR with ⟨hQ0, hX⟩ | ⟨cc, hQ1, hs0, hP1, hX⟩ | ⟨r, Q2, u, f2, s2, d, gap, ⟨hQd, hd1, hPd, hNr⟩, ⟨hu, heq, hbd⟩, ⟨hδ, hQ2, hNq2, hf2⟩, ⟨hs0, hs2⟩, ⟨hsz, hfB, hsB⟩, hR⟩
      · subst hQ0
        have h80 : n8 = 0 := by simpa using hl2.symm
        subst h80
        subst hX
        have q_r := x_r.al
        clear h h2 hl hl2 x_f x_s z_f z_s hP
        go_wp2
        refine x_r.st fun v9 hs hx => ?_
        have q_x := hx.al
        have hb9 : Below w.heap.size w v9 := ms1 hs hgw4 hb
        refine bodyPost_ret (v := .agg #[.bool false, .slice none 0 0]) (by simp [results, Tryz.results47, go_sem, q_x]) rfl ?_
        exact ⟨_, _, _, rfl, zn_nil0 _ _, hb9⟩
      · subst hQ1
        have h81 : n8 = 1 := by simpa using hl2.symm
        subst h81
        obtain ⟨k, hk⟩ : ∃ k, P9.length - 1 = k := ⟨_, rfl⟩
        rw [hk] at hX
        have hw1 : IntKind.i64.wrap ((n7 : Int) - 1) = (k : Int) := by rw [i64_keep (by omega) (by omega)]; omega
        have HX := Lib.hid hX.symm
        obtain ⟨d3, o3, b3, A13, n13, c13, rfl, hd3, x_e, z_e⟩ := h2.ec (k := 0) (by simp)
        have z_e : Zr wr b3 A13 n13 c13 cc B := z_e
        have x_e : Ec wr d3 o3 b3 A13 n13 c13 := by simpa using x_e
        have hk30 : k * (B + 2) ≤ 30 * (B + 2) := Nat.mul_le_mul_right _ (by omega)
        have hk31 : 30 * (B + 2) ≤ 30 * 202 := Nat.mul_le_mul_left _ (by omega)
        obtain ⟨KX, hKX⟩ : ∃ K, 30 * (B + 2) = K := ⟨_, rfl⟩
        rw [hKX] at hk30 hk31
        have HKX := Lib.hid hKX
        have hBK : B ≤ KX := by omega
        have hk9 : k ≤ 100000 := by omega
        have q_s := x_s.al; have q_e := x_e.al; have q_r := x_r.al
        clear h h2 hl hl2 x_f z_f hP hX hk hP1 hKX
        go_upto_region 18 with fail
        go_region_law (first | (go_simp; go_at_call 107; (with_reducible refine (Mrescale_any (K := KX) z_s.drw z_e.drw hs0 (by omega) hBK hk30 hk30 (by omega) hk9).mono ?_); rintro e v10 ⟨A20, n20, c20, rfl, z20, hb1⟩; replace hb1 := undrew hb1; obtain ⟨x_s, x_e, x_r, z_s, z_e, hb⟩ := mv6 hb1 x_s x_e x_r z_s z_e hb; clear hb1; replace q_s := x_s.al; replace q_e := x_e.al; replace q_r := x_r.al) | (go_simp; go_at_call 91; (with_reducible refine (Msigned_any (β := ng) z20.zr (by omega)).mono ?_); rintro e v11 ⟨A21, n21, c21, rfl, z21, hb1⟩; rw [HX.out] at z21 ⊢; obtain ⟨x_s, x_e, x_r, hb⟩ := mv4 hb1 x_s x_e x_r hb; clear hb1; replace q_s := x_s.al; replace q_e := x_e.al; replace q_r := x_r.al))
        all_goals
          go_wp2
          refine x_r.st fun v12 hs hx => ?_
          have q_x := hx.al
          have hb9 : Below w.heap.size w v12 := ms1 hs hgw4 hb
          have z22 : Zn v12 A21 n21 c21 X (KX + 1) := Ms.ms hs trivial z21
          refine bodyPost_ret (v := .agg #[.bool (ngB X), .slice A21 n21 c21]) (by simp [results, Tryz.results47, go_sem, q_x]) rfl ?_
          exact ⟨_, _, _, rfl, z22.kto (by have := HKX.out; omega), hb9⟩
      · have h8d : 1 < n8 := by omega
        have hgid : IntKind.i64.wrap ((n7 : Int) - n8) = (gap : Int) := by rw [i64_keep (by omega) (by omega)]; omega
        have hid8 : IntKind.i64.wrap ((n8 : Int) - 1) = (d : Int) := by rw [i64_keep (by omega) (by omega)]; omega
        have hgb : gap ≤ 28 := by omega
        have hd8 : d < n8 := by omega
        have hd0 : (nf Q9).length - 1 = d := by rw [MP.Se.nf_id hQ]; omega
        have hT0 : (nf P9).length - d = gap + 1 := by rw [MP.Se.nf_id hP]; omega
        have m1 : (gap + 1) * (B + 1) ≤ 30 * 201 := Nat.mul_le_mul (by omega) (by omega)
        have m2 : n7 * B ≤ 30 * 200 := Nat.mul_le_mul hn hB
        have m3 : gap * (B + 2) ≤ 30 * (B + 2) := Nat.mul_le_mul_right _ (by omega)
        have m4 : 30 * (B + 2) ≤ 30 * 202 := Nat.mul_le_mul_left _ (by omega)
        obtain ⟨KR, hKR⟩ : ∃ K, B + (gap + 1) * (B + 1) = K := ⟨_, rfl⟩
        obtain ⟨KT, hKT⟩ : ∃ K, KR + n7 * B + 1 = K := ⟨_, rfl⟩
        obtain ⟨KG, hKG⟩ : ∃ K, 30 * (B + 2) = K := ⟨_, rfl⟩
        rw [hKG] at m3 m4
        have hKRb : KR ≤ 6230 := by omega
        have hKTb : KT ≤ 900000 := by omega
        have hKGb : KG ≤ 6060 := by omega
        have hBG : B + 60 ≤ KG := by omega
        have hKR2 := Nat.le_of_eq hKR
        have hKT2 := Nat.le_of_eq hKT
        obtain ⟨D, hD⟩ : ∃ D, f * s ^ gap = D := ⟨_, rfl⟩
        rw [hD] at hδ hQ2
        have hrl := MP.Se.nm_len hNr hbd
        have hq2l : Q2.length ≤ d := MP.Se.nm_len hNq2 (fun i hi => by have := hbd i hi; rw [hQ2, MP.Se.sm_at] at this; rcases Int.mul_eq_zero.1 this with h | h; exact absurd h hδ; exact h)
        have hbo : decide (n7 % 2 = 0 ∧ n8 % 2 = 0) = bo2 P9 Q9 := by rw [bo2, hl, hl2]
        have hfd : ∀ h : d < Q9.length, Q9[d] = f2 := fun h => by rw [hf2, MP.Se.co_at h]
        have HDD := Lib.hid hD; have HQ2 := Lib.hid hQ2; have HQ2L := Lib.hid hq2l; have HS2 := Lib.hid hs2; have HSZ := Lib.hid hsz; have HSB := Lib.hid hsB; have HFB := Lib.hid hfB; have HR9 := Lib.hid hR; have HQD := Lib.hid hQd; have HEQ := Lib.hid heq; have HBO := Lib.hid hbo; have HFD := Lib.hid hfd; have HRL := Lib.hid hrl; have HS0 := Lib.hid hs0; have HM3 := Lib.hid m3; have HDZ := Lib.hid hδ
        have HL8 : Hid (n8 = d + 1) := Lib.hid (by omega)
        clear hD hq2l hs2 hsz hsB hfB hR hQd hPd hf2 hQ2 hl hl2 heq hKR hKT hKG hrl hbo hfd hs0 m1 m2 m3 m4 hδ
        have q_f := x_f.al
        have q_s := x_s.al
        have q_r := x_r.al
        go_wp2_with fail
        with_reducible refine MbothOdd_any.mono ?_
        rintro e v8 ⟨rfl, hb1⟩
        rw [HBO.out]
        obtain ⟨x_f, x_s, x_r, h, h2, z_f, z_s, hb⟩ := mv8 hb1 x_f x_s x_r h h2 z_f z_s hb
        clear hb1
        replace q_f := x_f.al
        replace q_s := x_s.al
        replace q_r := x_r.al
        go_wp2_with fail
        with_reducible refine (PRest_any (J := B) (J2 := B) (K := KR) (K2 := KT) (d := d) (T := gap + 1) h.pd h2.pd (by omega) hd0 hT0 hKR2 hKT2 hKTb (by omega)).mono ?_
        rintro e v9 ⟨hb1, hcase⟩
        rcases hcase with ⟨h0, _⟩ | ⟨_, L, A9, m9, c9, L2, A10, m10, c10, hNL, hNL2, heq2, hbd2, rfl, p9, p10⟩
        · exact absurd h0 (fun e => nm_last hQ HQD.out (by rw [e]; cases d <;> rfl))
        obtain rfl : L2 = r := rest_is HQD.out hQ hNr hu HEQ.out hbd hNL2 heq2 hbd2
        obtain ⟨x_f, x_s, x_r, h, h2, z_f, z_s, hb⟩ := mv8 hb1 x_f x_s x_r h h2 z_f z_s hb
        clear hb1
        replace q_f := x_f.al
        replace q_s := x_s.al
        replace q_r := x_r.al
        clear hNL hNL2 heq2 hbd2 p9 hu hbd hKR2 hKT2 hd0 hT0
        go_upto_region 11 with fail
        go_region_held3 (fun w' => w'.cell? ⟨g6, 0, none⟩ = some (.bool bf) ∧ w'.cell? ⟨g6, 1, none⟩ = some (.slice Af nf9 cf) ∧ w'.cell? ⟨g6 + 1, 0, none⟩ = some (.bool (ngB s)) ∧ w'.cell? ⟨g6 + 1, 1, none⟩ = some (.slice As ns cs))
          (first | (with_reducible exact ⟨x_f.c0, x_f.c1, x_s.c0, x_s.c1⟩) | go_keep)
          (first | (go_at_call 106; (with_reducible refine (Mpower_any gap z_s.zr.drw (by omega) HM3.out (by omega) (by omega)).mono ?_); rintro e v31 ⟨A11, n11, c11, rfl, z11, hb1⟩; replace hb1 := undrew hb1; obtain ⟨x_f, x_s, x_r, h, h2, z_f, z_s, p10, hb⟩ := mv9 hb1 x_f x_s x_r h h2 z_f z_s p10 hb; clear hb1; replace q_f := x_f.al; replace q_s := x_s.al; replace q_r := x_r.al) | (go_at_call 84; (with_reducible refine (ZMul_any z_f z11.zr (B + KG) (Nat.le_refl _) (by omega)).mono ?_); rintro e v32 ⟨A12, n12, c12, rfl, z12, hb1⟩; obtain ⟨x_f, x_s, x_r, h, h2, z_f, z_s, p10, z11⟩ := mv9 hb1 x_f x_s x_r h h2 z_f z_s p10 z11; replace hb := Mv.mv hb hb1; clear hb1; replace q_f := x_f.al; replace q_s := x_s.al; replace q_r := x_r.al; rw [HDD.out] at z12 ⊢))
        go_wp2_with fail
        refine al1c fun v12 hb1 x_o => ?_
        have hpw : Po v12 0 _ 1 1 [D] (B + KG) := (Pw.one x_o (z12.keep hb1)).po (B := 0) (by omega)
        obtain ⟨x_f, x_s, x_r, h, h2, z_f, z_s, p10, hb⟩ := mv9 hb1 x_f x_s x_r h h2 z_f z_s p10 hb
        clear hb1
        replace q_f := x_f.al
        replace q_s := x_s.al
        replace q_r := x_r.al
        have hm10 : m10 ≤ 30 := by have := p10.pd.len; have := HRL.out; omega
        have m5 : (m10 + 1) * (B + KG + 2) ≤ 31 * 6262 := Nat.mul_le_mul (by omega) (by omega)
        with_reducible refine (PDivide_any (K := 300000) p10.pd hpw.pd (by omega) (by omega) (by omega)).mono ?_
        rintro e v13 ⟨hb1, hcase⟩
        rcases hcase with ⟨h0, _⟩ | ⟨_, hno, _⟩ | ⟨_, L3, A13, m13, c13, hNL, heL, rfl, p13⟩
        · exact absurd h0 (dv_ne HDZ.out)
        · exact absurd (dv_yes HQ2.out) hno
        obtain rfl : L3 = Q2 := dv_is HDZ.out HQ2.out hNq2 hNL heL
        replace p13 := p13.pq (g := g6) x_s.lt HSZ.out
        obtain ⟨x_f, x_s, x_r, h, h2, z_f, z_s, hb⟩ := mv8 hb1 x_f x_s x_r h h2 z_f z_s hb
        clear hb1
        replace q_f := x_f.al
        replace q_s := x_s.al
        replace q_r := x_r.al
        clear hpw heL hNL z11 z12 p10 x_o
        obtain ⟨d4, o4, b14, A14, n14, c14, e4, hd4, x_l, z14⟩ := h2.ec (k := d) (by rw [HQD.out]; omega)
        subst e4
        rw [HFD.out] at z14
        have q_l := x_l.al
        go_upto_region 15 with fail
        clear q_f q_s q_r
        refine x_f.st fun v33 hs hx => ?_
        obtain ⟨x_s, x_r, h, h2, z_f, z_s, p13, z14, hb⟩ := ms9 hs ⟨by omega, by omega, by omega, by omega, trivial, trivial, by omega, trivial, by omega⟩ x_s x_r h h2 z_f z_s p13 z14 hb
        replace x_f := hx; clear hx hs
        have q_f := x_f.al
        have q_s := x_s.al
        have q_r := x_r.al
        clear q_l x_l
        go_wp2_with fail
        have m7 := HM3.out
        with_reducible refine (Mrescale_any (K := KG) z_s z14 HS0.out (by omega) (by omega) HM3.out HM3.out (by omega) (by omega)).mono ?_
        rintro e v34 ⟨A17, n17, c17, rfl, z17, hb1⟩
        obtain ⟨x_f, x_s, x_r, h, h2, z_f, z_s, p13, z14⟩ := mv9 hb1 x_f x_s x_r h h2 z_f z_s p13 z14
        replace hb := Mv.mv hb hb1
        clear hb1
        replace q_f := x_f.al
        replace q_s := x_s.al
        replace q_r := x_r.al
        rw [← HS2.out] at z17 ⊢
        replace z17 := z17.slim HSB.out
        clear q_f q_s q_r
        have q_s := x_s.al
        go_wp2
        clear q_s
        have hm13 := p13.len
        have hq9 := HQ2L.out
        have hq8 := HL8.out
        have hq13 : m13 ≤ 30 := by omega
        refine ⟨?_, by simp [lenOf]; omega⟩
        refine x_s.st (F := RvI w B X g4 g6 (.slice (some ⟨d4, o4, none⟩) n8 c8) (.slice A13 m13 c13) (.bool (ng != bo2 P9 Q9))) fun v35 hs hx => ?_
        obtain ⟨x_f, x_r, h, h2, z_f, z_s, p13, z14, z17⟩ := ms9 hs ⟨by omega, by omega, by omega, by omega, trivial, trivial, by omega, trivial, trivial⟩ x_f x_r h h2 z_f z_s p13 z14 z17
        replace hb := Ms.ms hs (by omega) hb
        replace x_s := hx; clear hx hs
        have q_f := x_f.al
        have q_s := x_s.al
        have q_r := x_r.al
        exact ⟨N9, (some ⟨d4, o4, none⟩), n8, c8, A13, m13, c13, Q9, L3, f2, s2, _, rfl, rfl, rfl, HR9.out, h2, p13, hQ, hNq2, hn2, hq13, ⟨_, _, _, _, x_f, z14⟩, ⟨_, _, _, x_s, z17⟩, x_r, hb⟩
  · rw [if_neg hlt] at hR
    go_wp2_with fail
    with_reducible refine (ZOf_any 1 (by omega) (by omega)).mono ?_
    rintro e v5 ⟨A5, n5, c5, rfl, z5, hb1⟩
    obtain ⟨hp3, hp4, x_r, hb⟩ := mv4 hb1 hp3 hp4 x_r hb
    clear hb1
    go_wp2_with fail
    with_reducible refine (ZOf_any 1 (by omega) (by omega)).mono ?_
    rintro e v6 ⟨A6, n6, c6, rfl, z6, hb1⟩
    obtain ⟨hp3, hp4, x_r, z5, hb⟩ := mv5 hb1 hp3 hp4 x_r z5 hb
    have hs6 := hb1.size
    clear hb1
    go_wp2_with fail
    refine al2 fun v7 hb1 x_f x_s => ?_
    replace x_f := Bx.of x_f; replace x_s := Bx.of x_s
    have hgw := Nat.le_trans hp3.1 (Nat.le_refl _)
    have hg46 := x_r.lt
    obtain ⟨hp3, hp4, x_r, z5, z6, hb⟩ := mv6 hb1 hp3 hp4 x_r z5 z6 hb
    clear hb1
    obtain ⟨g6, hg6⟩ : ∃ g, v6.heap.size = g := ⟨_, rfl⟩
    rw [hg6] at x_f x_s hgw hg46
    simp only [hg6]
    clear hg6
    have hgl := x_f.lt
    have hr0 : RvI w B X g4 g6 (.slice A3 P.length c3) (.slice A4 Q.length c4) (.bool false) v7 := ⟨N, _, _, _, _, _, _, _, _, _, _, _, rfl, rfl, rfl, hR, hp3.2.pq hgw (by omega), hp4.2.pq hgw (by omega), hP, hQ, hPl, hQl, ⟨_, _, _, _, x_f, z5.zr.kto hB1⟩, ⟨_, _, _, x_s, z6.kto hB1⟩, x_r, hb⟩
    clear hp3 hp4 hR hP hQ hPl hQl x_f x_s x_r z5 z6 hb hlt
    go_loopw [0, 1, 5] (fun pv qv nv wr => RvI w B X g4 g6 pv qv nv wr) (fun _ qv _ _ => lenOf qv)
    case atStart => exact hr0
    case round =>
      clear hr0
      obtain ⟨N9, A7, n7, c7, A8, n8, c8, P9, Q9, f, s, ng, rfl, rfl, rfl, hR, h, h2, hP, hQ, hn, hn2, ⟨bf, Af, nf9, cf, x_f, z_f⟩, ⟨As, ns, cs, x_s, z_s⟩, x_r, hb⟩ := hrel
      have hl := h.len; have hl2 := h2.len
      rcases N9 with _ | N9
      · exact hR.elim
      rcases hR with ⟨hQ0, hX⟩ | ⟨cc, hQ1, hs0, hP1, hX⟩ | ⟨r, Q2, u, f2, s2, d, gap, ⟨hQd, hd1, hPd, hNr⟩, ⟨hu, heq, hbd⟩, ⟨hδ, hQ2, hNq2, hf2⟩, ⟨hs0, hs2⟩, ⟨hsz, hfB, hsB⟩, hR⟩
      · subst hQ0
        have h80 : n8 = 0 := by simpa using hl2.symm
        subst h80
        subst hX
        have q_r := x_r.al
        clear h h2 hl hl2 x_f x_s z_f z_s hP
        go_wp2
        refine x_r.st fun v9 hs hx => ?_
        have q_x := hx.al
        have hb9 : Below w.heap.size w v9 := ms1 hs hgw4 hb
        refine bodyPost_ret (v := .agg #[.bool false, .slice none 0 0]) (by simp [results, Tryz.results47, go_sem, q_x]) rfl ?_
        exact ⟨_, _, _, rfl, zn_nil0 _ _, hb9⟩
      · subst hQ1
        have h81 : n8 = 1 := by simpa using hl2.symm
        subst h81
        obtain ⟨k, hk⟩ : ∃ k, P9.length - 1 = k := ⟨_, rfl⟩
        rw [hk] at hX
        have hw1 : IntKind.i64.wrap ((n7 : Int) - 1) = (k : Int) := by rw [i64_keep (by omega) (by omega)]; omega
        have HX := Lib.hid hX.symm
        obtain ⟨d3, o3, b3, A13, n13, c13, rfl, hd3, x_e, z_e⟩ := h2.ec (k := 0) (by simp)
        have z_e : Zr wr b3 A13 n13 c13 cc B := z_e
        have x_e : Ec wr d3 o3 b3 A13 n13 c13 := by simpa using x_e
        have hk30 : k * (B + 2) ≤ 30 * (B + 2) := Nat.mul_le_mul_right _ (by omega)
        have hk31 : 30 * (B + 2) ≤ 30 * 202 := Nat.mul_le_mul_left _ (by omega)
        obtain ⟨KX, hKX⟩ : ∃ K, 30 * (B + 2) = K := ⟨_, rfl⟩
        rw [hKX] at hk30 hk31
        have HKX := Lib.hid hKX
        have hBK : B ≤ KX := by omega
        have hk9 : k ≤ 100000 := by omega
        have q_s := x_s.al; have q_e := x_e.al; have q_r := x_r.al
        clear h h2 hl hl2 x_f z_f hP hX hk hP1 hKX
        go_upto_region 18 with fail
        go_region_law (first | (go_simp; go_at_call 107; (with_reducible refine (Mrescale_any (K := KX) z_s.drw z_e.drw hs0 (by omega) hBK hk30 hk30 (by omega) hk9).mono ?_); rintro e v10 ⟨A20, n20, c20, rfl, z20, hb1⟩; replace hb1 := undrew hb1; obtain ⟨x_s, x_e, x_r, z_s, z_e, hb⟩ := mv6 hb1 x_s x_e x_r z_s z_e hb; clear hb1; replace q_s := x_s.al; replace q_e := x_e.al; replace q_r := x_r.al) | (go_simp; go_at_call 91; (with_reducible refine (Msigned_any (β := ng) z20.zr (by omega)).mono ?_); rintro e v11 ⟨A21, n21, c21, rfl, z21, hb1⟩; rw [HX.out] at z21 ⊢; obtain ⟨x_s, x_e, x_r, hb⟩ := mv4 hb1 x_s x_e x_r hb; clear hb1; replace q_s := x_s.al; replace q_e := x_e.al; replace q_r := x_r.al))
        all_goals
          go_wp2
          refine x_r.st fun v12 hs hx => ?_
          have q_x := hx.al
          have hb9 : Below w.heap.size w v12 := ms1 hs hgw4 hb
          have z22 : Zn v12 A21 n21 c21 X (KX + 1) := Ms.ms hs trivial z21
          refine bodyPost_ret (v := .agg #[.bool (ngB X), .slice A21 n21 c21]) (by simp [results, Tryz.results47, go_sem, q_x]) rfl ?_
          exact ⟨_, _, _, rfl, z22.kto (by have := HKX.out; omega), hb9⟩
      · have h8d : 1 < n8 := by omega
        have hgid : IntKind.i64.wrap ((n7 : Int) - n8) = (gap : Int) := by rw [i64_keep (by omega) (by omega)]; omega
        have hid8 : IntKind.i64.wrap ((n8 : Int) - 1) = (d : Int) := by rw [i64_keep (by omega) (by omega)]; omega
        have hgb : gap ≤ 28 := by omega
        have hd8 : d < n8 := by omega
        have hd0 : (nf Q9).length - 1 = d := by rw [MP.Se.nf_id hQ]; omega
        have hT0 : (nf P9).length - d = gap + 1 := by rw [MP.Se.nf_id hP]; omega
        have m1 : (gap + 1) * (B + 1) ≤ 30 * 201 := Nat.mul_le_mul (by omega) (by omega)
        have m2 : n7 * B ≤ 30 * 200 := Nat.mul_le_mul hn hB
        have m3 : gap * (B + 2) ≤ 30 * (B + 2) := Nat.mul_le_mul_right _ (by omega)
        have m4 : 30 * (B + 2) ≤ 30 * 202 := Nat.mul_le_mul_left _ (by omega)
        obtain ⟨KR, hKR⟩ : ∃ K, B + (gap + 1) * (B + 1) = K := ⟨_, rfl⟩
        obtain ⟨KT, hKT⟩ : ∃ K, KR + n7 * B + 1 = K := ⟨_, rfl⟩
        obtain ⟨KG, hKG⟩ : ∃ K, 30 * (B + 2) = K := ⟨_, rfl⟩
        rw [hKG] at m3 m4
        have hKRb : KR ≤ 6230 := by omega
        have hKTb : KT ≤ 900000 := by omega
        have hKGb : KG ≤ 6060 := by omega
        have hBG : B + 60 ≤ KG := by omega
        have hKR2 := Nat.le_of_eq hKR
        have hKT2 := Nat.le_of_eq hKT
        obtain ⟨D, hD⟩ : ∃ D, f * s ^ gap = D := ⟨_, rfl⟩
        rw [hD] at hδ hQ2
        have hrl := MP.Se.nm_len hNr hbd
        have hq2l : Q2.length ≤ d := MP.Se.nm_len hNq2 (fun i hi => by have := hbd i hi; rw [hQ2, MP.Se.sm_at] at this; rcases Int.mul_eq_zero.1 this with h | h; exact absurd h hδ; exact h)
        have hbo : decide (n7 % 2 = 0 ∧ n8 % 2 = 0) = bo2 P9 Q9 := by rw [bo2, hl, hl2]
        have hfd : ∀ h : d < Q9.length, Q9[d] = f2 := fun h => by rw [hf2, MP.Se.co_at h]
        have HDD := Lib.hid hD; have HQ2 := Lib.hid hQ2; have HQ2L := Lib.hid hq2l; have HS2 := Lib.hid hs2; have HSZ := Lib.hid hsz; have HSB := Lib.hid hsB; have HFB := Lib.hid hfB; have HR9 := Lib.hid hR; have HQD := Lib.hid hQd; have HEQ := Lib.hid heq; have HBO := Lib.hid hbo; have HFD := Lib.hid hfd; have HRL := Lib.hid hrl; have HS0 := Lib.hid hs0; have HM3 := Lib.hid m3; have HDZ := Lib.hid hδ
        have HL8 : Hid (n8 = d + 1) := Lib.hid (by omega)
        clear hD hq2l hs2 hsz hsB hfB hR hQd hPd hf2 hQ2 hl hl2 heq hKR hKT hKG hrl hbo hfd hs0 m1 m2 m3 m4 hδ
        have q_f := x_f.al
        have q_s := x_s.al
        have q_r := x_r.al
        go_wp2_with fail
        with_reducible refine MbothOdd_any.mono ?_
        rintro e v8 ⟨rfl, hb1⟩
        rw [HBO.out]
        obtain ⟨x_f, x_s, x_r, h, h2, z_f, z_s, hb⟩ := mv8 hb1 x_f x_s x_r h h2 z_f z_s hb
        clear hb1
        replace q_f := x_f.al
        replace q_s := x_s.al
        replace q_r := x_r.al
        go_wp2_with fail
        with_reducible refine (PRest_any (J := B) (J2 := B) (K := KR) (K2 := KT) (d := d) (T := gap + 1) h.pd h2.pd (by omega) hd0 hT0 hKR2 hKT2 hKTb (by omega)).mono ?_
        rintro e v9 ⟨hb1, hcase⟩
        rcases hcase with ⟨h0, _⟩ | ⟨_, L, A9, m9, c9, L2, A10, m10, c10, hNL, hNL2, heq2, hbd2, rfl, p9, p10⟩
        · exact absurd h0 (fun e => nm_last hQ HQD.out (by rw [e]; cases d <;> rfl))
        obtain rfl : L2 = r := rest_is HQD.out hQ hNr hu HEQ.out hbd hNL2 heq2 hbd2
        obtain ⟨x_f, x_s, x_r, h, h2, z_f, z_s, hb⟩ := mv8 hb1 x_f x_s x_r h h2 z_f z_s hb
        clear hb1
        replace q_f := x_f.al
        replace q_s := x_s.al
        replace q_r := x_r.al
        clear hNL hNL2 heq2 hbd2 p9 hu hbd hKR2 hKT2 hd0 hT0
        go_upto_region 11 with fail
        go_region_held3 (fun w' => w'.cell? ⟨g6, 0, none⟩ = some (.bool bf) ∧ w'.cell? ⟨g6, 1, none⟩ = some (.slice Af nf9 cf) ∧ w'.cell? ⟨g6 + 1, 0, none⟩ = some (.bool (ngB s)) ∧ w'.cell? ⟨g6 + 1, 1, none⟩ = some (.slice As ns cs))
          (first | (with_reducible exact ⟨x_f.c0, x_f.c1, x_s.c0, x_s.c1⟩) | go_keep)
          (first | (go_at_call 106; (with_reducible refine (Mpower_any gap z_s.zr.drw (by omega) HM3.out (by omega) (by omega)).mono ?_); rintro e v31 ⟨A11, n11, c11, rfl, z11, hb1⟩; replace hb1 := undrew hb1; obtain ⟨x_f, x_s, x_r, h, h2, z_f, z_s, p10, hb⟩ := mv9 hb1 x_f x_s x_r h h2 z_f z_s p10 hb; clear hb1; replace q_f := x_f.al; replace q_s := x_s.al; replace q_r := x_r.al) | (go_at_call 84; (with_reducible refine (ZMul_any z_f z11.zr (B + KG) (Nat.le_refl _) (by omega)).mono ?_); rintro e v32 ⟨A12, n12, c12, rfl, z12, hb1⟩; obtain ⟨x_f, x_s, x_r, h, h2, z_f, z_s, p10, z11⟩ := mv9 hb1 x_f x_s x_r h h2 z_f z_s p10 z11; replace hb := Mv.mv hb hb1; clear hb1; replace q_f := x_f.al; replace q_s := x_s.al; replace q_r := x_r.al; rw [HDD.out] at z12 ⊢))
        go_wp2_with fail
        refine al1c fun v12 hb1 x_o => ?_
        have hpw : Po v12 0 _ 1 1 [D] (B + KG) := (Pw.one x_o (z12.keep hb1)).po (B := 0) (by omega)
        obtain ⟨x_f, x_s, x_r, h, h2, z_f, z_s, p10, hb⟩ := mv9 hb1 x_f x_s x_r h h2 z_f z_s p10 hb
        clear hb1
        replace q_f := x_f.al
        replace q_s := x_s.al
        replace q_r := x_r.al
        have hm10 : m10 ≤ 30 := by have := p10.pd.len; have := HRL.out; omega
        have m5 : (m10 + 1) * (B + KG + 2) ≤ 31 * 6262 := Nat.mul_le_mul (by omega) (by omega)
        with_reducible refine (PDivide_any (K := 300000) p10.pd hpw.pd (by omega) (by omega) (by omega)).mono ?_
        rintro e v13 ⟨hb1, hcase⟩
        rcases hcase with ⟨h0, _⟩ | ⟨_, hno, _⟩ | ⟨_, L3, A13, m13, c13, hNL, heL, rfl, p13⟩
        · exact absurd h0 (dv_ne HDZ.out)
        · exact absurd (dv_yes HQ2.out) hno
        obtain rfl : L3 = Q2 := dv_is HDZ.out HQ2.out hNq2 hNL heL
        replace p13 := p13.pq (g := g6) x_s.lt HSZ.out
        obtain ⟨x_f, x_s, x_r, h, h2, z_f, z_s, hb⟩ := mv8 hb1 x_f x_s x_r h h2 z_f z_s hb
        clear hb1
        replace q_f := x_f.al
        replace q_s := x_s.al
        replace q_r := x_r.al
        clear hpw heL hNL z11 z12 p10 x_o
        obtain ⟨d4, o4, b14, A14, n14, c14, e4, hd4, x_l, z14⟩ := h2.ec (k := d) (by rw [HQD.out]; omega)
        subst e4
        rw [HFD.out] at z14
        have q_l := x_l.al
        go_upto_region 15 with fail
        clear q_f q_s q_r
        refine x_f.st fun v33 hs hx => ?_
        obtain ⟨x_s, x_r, h, h2, z_f, z_s, p13, z14, hb⟩ := ms9 hs ⟨by omega, by omega, by omega, by omega, trivial, trivial, by omega, trivial, by omega⟩ x_s x_r h h2 z_f z_s p13 z14 hb
        replace x_f := hx; clear hx hs
        have q_f := x_f.al
        have q_s := x_s.al
        have q_r := x_r.al
        clear q_l x_l
        go_wp2_with fail
        have m7 := HM3.out
        with_reducible refine (Mrescale_any (K := KG) z_s z14 HS0.out (by omega) (by omega) HM3.out HM3.out (by omega) (by omega)).mono ?_
        rintro e v34 ⟨A17, n17, c17, rfl, z17, hb1⟩
        obtain ⟨x_f, x_s, x_r, h, h2, z_f, z_s, p13, z14⟩ := mv9 hb1 x_f x_s x_r h h2 z_f z_s p13 z14
        replace hb := Mv.mv hb hb1
        clear hb1
        replace q_f := x_f.al
        replace q_s := x_s.al
        replace q_r := x_r.al
        rw [← HS2.out] at z17 ⊢
        replace z17 := z17.slim HSB.out
        clear q_f q_s q_r
        have q_s := x_s.al
        go_wp2
        clear q_s
        have hm13 := p13.len
        have hq9 := HQ2L.out
        have hq8 := HL8.out
        have hq13 : m13 ≤ 30 := by omega
        refine ⟨?_, by simp [lenOf]; omega⟩
        refine x_s.st (F := RvI w B X g4 g6 (.slice (some ⟨d4, o4, none⟩) n8 c8) (.slice A13 m13 c13) (.bool (ng != bo2 P9 Q9))) fun v35 hs hx => ?_
        obtain ⟨x_f, x_r, h, h2, z_f, z_s, p13, z14, z17⟩ := ms9 hs ⟨by omega, by omega, by omega, by omega, trivial, trivial, by omega, trivial, trivial⟩ x_f x_r h h2 z_f z_s p13 z14 z17
        replace hb := Ms.ms hs (by omega) hb
        replace x_s := hx; clear hx hs
        have q_f := x_f.al
        have q_s := x_s.al
        have q_r := x_r.al
        exact ⟨N9, (some ⟨d4, o4, none⟩), n8, c8, A13, m13, c13, Q9, L3, f2, s2, _, rfl, rfl, rfl, HR9.out, h2, p13, hQ, hNq2, hn2, hq13, ⟨_, _, _, _, x_f, z14⟩, ⟨_, _, _, x_s, z17⟩, x_r, hb⟩
end Go.Proofs.YtbpamkpclofnbaaGreat
