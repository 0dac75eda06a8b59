/-
  polyz: Gcd, Simple.
-/
import Derived.Test.YtnidohbbimfpjaaVpg
import Derived.Test.YtnidohbbimfpjaaVder
namespace Go.Proofs.Ytnidohbbimfpjaa
open Go.RowKit
open MP.Se (nf co)
set_option linter.unusedVariables false
set_option maxRecDepth 100000

/-- What Gcd's inner part makes of two primitive lists. -/
def PgL (B N : Nat) (P Q G : List Int) : Prop := if P.length < Q.length then PgR B N Q P 1 1 G else PgR B N P Q 1 1 G
theorem PGcd_any {A A2 : Option Addr} {n c n2 c2 J J2 B N : Nat} {l l2 G : List Int} {w : World} (h : Pd w w.heap.size A n c l J) (h2 : Pd w w.heap.size A2 n2 c2 l2 J2) (hJ : J ≤ 900) (hJ2 : J2 ≤ 900) (hn : n ≤ 100) (hn2 : n2 ≤ 100) (hB : B ≤ 1000) (hB1 : J + 1 ≤ B) (hB2 : J2 + 1 ≤ B) (hR : PgL B N (primL l) (primL l2) G) :
    Calls Try.prog 18 #[.slice A n c, .slice A2 n2 c2] w (OutS w (MP.Se.sm (Nat.gcd (ctL l).natAbs (ctL l2).natAbs : Int) (co G)) (2 * B + 1)) := by
  have hl := h.len
  have hl2 := h2.len
  have e1 : (primL l).length ≤ n := by rw [primL]; refine Nat.le_trans (MP.Se.nf_len _) ?_; rw [List.length_map]; have := MP.Se.nf_len l; omega
  have e2 : (primL l2).length ≤ n2 := by rw [primL]; refine Nat.le_trans (MP.Se.nf_len _) ?_; rw [List.length_map]; have := MP.Se.nf_len l2; omega
  have N1 : MP.Se.Nm (primL l) := MP.Se.nm_nf _
  have N2 : MP.Se.Nm (primL l2) := MP.Se.nm_nf _
  obtain ⟨P, hP⟩ : ∃ P, primL l = P := ⟨_, rfl⟩
  obtain ⟨Q, hQ⟩ : ∃ P, primL l2 = P := ⟨_, rfl⟩
  obtain ⟨C, hC⟩ : ∃ C, (Nat.gcd (ctL l).natAbs (ctL l2).natAbs : Int) = C := ⟨_, rfl⟩
  rw [hC]
  rw [hP] at e1 N1 hR; rw [hQ] at e2 N2 hR
  have HP := Lib.hid hP; have HQ := Lib.hid hQ; have HC := Lib.hid hC; have HR := Lib.hid (show (if P.length < Q.length then PgR B N Q P 1 1 G else PgR B N P Q 1 1 G) from hR)
  replace h := h.pe; replace h2 := h2.pe
  clear hP hQ hC hR hl hl2
  go_enter Try.func18, Try.ntmps18
  go_wp2_with fail
  with_reducible refine (PContent_any h.pd (by omega)).mono ?_
  rintro e v1 ⟨A3, n3, c3, rfl, z3, hb⟩
  obtain ⟨h, h2⟩ := mv2 hb h h2
  go_wp2_with fail
  with_reducible refine (PContent_any h2.pd (by omega)).mono ?_
  rintro e v2 ⟨A4, n4, c4, rfl, z4, hb1⟩
  obtain ⟨h, h2, z3, hb⟩ := mv4 hb1 h h2 z3 hb
  clear hb1
  go_wp2_with fail
  with_reducible refine (ZGcd_any z3.zr z4.zr B (by omega) (by omega) (by omega)).mono ?_
  rintro e v3 ⟨A5, n5, c5, rfl, z5, hb1⟩
  obtain ⟨h, h2, z3, z4, hb⟩ := mv5 hb1 h h2 z3 z4 hb
  clear hb1
  rw [HC.out] at z5
  rw [HC.out]
  clear z3 z4
  go_upto_region 2 with fail
  have e_g : w.heap.size ≤ v3.heap.size := hb.size
  refine al1 fun v4 hb1 x_g => ?_
  replace x_g := Bx.of x_g
  obtain ⟨h, h2, z5, hb⟩ := mv4 hb1 h h2 z5 hb
  clear hb1
  have q_g := x_g.al
  go_region_held3 (fun w' => w'.cell? ⟨v3.heap.size, 0, none⟩ = some (.bool (ngB C)) ∧ w'.cell? ⟨v3.heap.size, 1, none⟩ = some (.slice A5 n5 c5))
    (first | (with_reducible exact ⟨x_g.c0, x_g.c1⟩) | go_keep)
    (first | (go_at_call 27; (with_reducible refine (PPrimitive_any h.pd.drw (by omega)).mono ?_); rintro e v5 ⟨A6, m6, c6, rfl, p6, hb1⟩; replace hb1 := undrew hb1; obtain ⟨x_g, h, h2, z5, hb⟩ := mv5 hb1 x_g h h2 z5 hb; clear hb1; replace q_g := x_g.al; rw [HP.out] at p6) | (go_at_call 27; (with_reducible refine (PPrimitive_any h2.pd (by omega)).mono ?_); rintro e v6 ⟨A7, m7, c7, rfl, p7, hb1⟩; obtain ⟨x_g, h, h2, z5, p6, hb⟩ := mv6 hb1 x_g h h2 z5 p6 hb; clear hb1; replace q_g := x_g.al; rw [HQ.out] at p7; have hm6 := p6.pd.len; have hm7 := p7.pd.len) | (go_at_call 56; (with_reducible refine (Ppg_any (B := B) (N := N) (G := G) (p6.pd.kto hB1) (p7.pd.kto hB2) N1 N2 (by omega) (by omega) hB (by omega) (by rw [← hm6, ← hm7]; exact HR.out)).mono ?_); rintro e v7 ⟨A8, m8, c8, rfl, p8, hb1⟩; obtain ⟨x_g, h, h2, z5, p6, p7, hb⟩ := mv7 hb1 x_g h h2 z5 p6 p7 hb; clear hb1; replace q_g := x_g.al) | (go_at_call 24; (with_reducible refine (PTimesS_any (K := 2 * B + 1) p8.pd z5.zr (by omega) (by omega)).mono ?_); rintro e v8 ⟨L9, hN9, hL9, A9, m9, c9, rfl, p9, hb1⟩; replace p9 := p9.more hb.size; obtain ⟨x_g, h, h2, z5, p6, p7, p8, hb⟩ := mv8 hb1 x_g h h2 z5 p6 p7 p8 hb; clear hb1; replace q_g := x_g.al))
  have HL := Lib.hid hL9
  clear hL9 hm6 hm7
  go_wp2
  go_ret
  exact ⟨L9, hN9, HL.out, A9, m9, c9, rfl, p9, hb⟩
set_option maxHeartbeats 4000000
/-- The simple part: what is divided by what. -/
theorem PSimple_any {A : Option Addr} {n c J B N K : Nat} {l P D G : List Int} {w : World} (h : Pd w w.heap.size A n c l J) (hJ : J ≤ 800) (hn : n ≤ 100) (hB : B ≤ 1000) (hB1 : J + 3 ≤ B) (hGl : G.length ≤ 1000) (hP : primL l = P) (hD : nf (MP.Se.ls (P.length - 1) (MP.Se.dr (co P))) = D) (hR : PgL B N (primL P) (primL D) G) (hK : B + (n + 1) * (2 * B + 3) ≤ K) (hK2 : K ≤ 900000) :
    Calls Try.prog 28 #[.slice A n c] w fun e w' => Below w.heap.size w w' ∧ ∃ A' n' c', e = .returned (.slice A' n' c') ∧
      ∀ g, g = MP.Se.sm (Nat.gcd (ctL P).natAbs (ctL D).natAbs : Int) (co G) →
        (g = MP.Se.c 0 ∧ (A' = none ∧ n' = 0 ∧ c' = 0)) ∨ (g ≠ MP.Se.c 0 ∧ ¬ MP.Se.Dv g (co P) ∧ (A' = none ∧ n' = 0 ∧ c' = 0)) ∨ (g ≠ MP.Se.c 0 ∧ ∃ L, MP.Se.Nm L ∧ co P = g * co L ∧ Po w' w.heap.size A' n' c' L K) := by
  have hl := h.len
  have e1 : P.length ≤ n := by rw [← hP, primL]; refine Nat.le_trans (MP.Se.nf_len _) ?_; rw [List.length_map]; have := MP.Se.nf_len l; omega
  have e2 : D.length ≤ n := by rw [← hD]; refine Nat.le_trans (MP.Se.nf_len _) ?_; rw [MP.Se.len_ls]; omega
  have HP := Lib.hid hP; have HD := Lib.hid hD; have HR := Lib.hid hR
  obtain ⟨C, hC⟩ : ∃ C, (Nat.gcd (ctL P).natAbs (ctL D).natAbs : Int) = C := ⟨_, rfl⟩
  rw [hC]
  have HC := Lib.hid hC
  replace h := h.pe
  clear hP hD hC hR hl
  go_enter Try.func28, Try.ntmps28
  go_wp2_with fail
  with_reducible refine (PPrimitive_any h.pd (by omega)).mono ?_
  rintro e v1 ⟨A3, n3, c3, rfl, p3, hb⟩
  rw [HP.out] at p3
  have hn3 := p3.pd.len
  go_wp2_with fail
  with_reducible refine (PDerive_any p3.pd (by omega)).mono ?_
  rintro e v2 ⟨A4, n4, c4, rfl, p4, hb1⟩
  obtain ⟨p3, hb⟩ := mv2 hb1 p3 hb
  clear hb1
  rw [HD.out] at p4
  have hn4 := p4.pd.len
  go_wp2_with fail
  with_reducible refine (PGcd_any (B := B) (N := N) (G := G) p3.pd p4.pd (by omega) (by omega) (by omega) (by omega) hB (by omega) (by omega) HR.out).mono ?_
  rintro e v3 ⟨L5, hN5, hL5, A5, n5, c5, rfl, p5, hb1⟩
  obtain ⟨p3, p4, hb⟩ := mv3 hb1 p3 p4 hb
  clear hb1
  rw [HC.out] at hL5
  have hn5 := p5.pd.len
  have hn5b : n5 ≤ 1000 := by have := MP.Se.nm_len hN5 (n := G.length) (by rw [hL5]; exact (MP.Se.co_bd G).sm); omega
  have HL5 := Lib.hid hL5; clear hL5
  have hmul : (n3 + 1) * (2 * B + 1 + 2) ≤ (n + 1) * (2 * B + 3) := Nat.mul_le_mul (by omega) (Nat.le_refl _)
  go_wp2_with fail
  with_reducible refine (PDivide_any (K := K) p3.pd p5.pd (by omega) (by omega) hK2).mono ?_
  rintro e v4 ⟨hb1, hcase⟩
  have hbs := hb.size
  replace hb := bthen hb hb1
  rcases hcase with ⟨h0, rfl⟩ | ⟨h0, hnd, rfl⟩ | ⟨h0, L, A6, n6, c6, hNL, hLe, rfl, p6⟩
  · have H0 := Lib.hid h0
    clear h0 hb1 hmul
    go_wp2
    go_ret
    exact ⟨hb, _, _, _, rfl, fun g hg => .inl ⟨by rw [hg, ← HL5.out]; exact H0.out, rfl, rfl, rfl⟩⟩
  · have H0 := Lib.hid h0; have H1 := Lib.hid hnd
    clear h0 hnd hb1 hmul
    go_wp2
    go_ret
    exact ⟨hb, _, _, _, rfl, fun g hg => .inr (.inl ⟨by rw [hg, ← HL5.out]; exact H0.out, by rw [hg, ← HL5.out]; exact H1.out, rfl, rfl, rfl⟩)⟩
  · have H0 := Lib.hid h0; have H1 := Lib.hid hLe
    replace p6 := p6.more hbs
    clear h0 hLe hb1 hmul
    go_wp2
    go_ret
    exact ⟨hb, _, _, _, rfl, fun g hg => .inr (.inr ⟨by rw [hg, ← HL5.out]; exact H0.out, L, hNL, by rw [hg, ← HL5.out]; exact H1.out, p6⟩)⟩
end Go.Proofs.Ytnidohbbimfpjaa
