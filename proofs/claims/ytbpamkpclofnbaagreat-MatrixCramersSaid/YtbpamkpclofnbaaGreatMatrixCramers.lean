/-
  matrix: MatrixCramers.
-/
import Derived.Test.YtbpamkpclofnbaaGreatMclo
import Derived.Test.YtbpamkpclofnbaaGreatMcof
import Derived.Test.YtbpamkpclofnbaaGreatMshow
import Derived.Test.YtbpamkpclofnbaaGreatMcat
namespace Go.Proofs.YtbpamkpclofnbaaGreat
open Go.RowKit
open MP.Se (nf co)
set_option linter.unusedVariables false
set_option maxRecDepth 100000

/-- What the loops keep. -/
def CrL (w : World) (N : Nat) (A Ab Ax Ad : Option Addr) (na ca cb cx kd cd gd : Nat) (MA : List (List Int)) (lb LX : List Int) (D : Int) (wr : World) : Prop :=
  Me wr N A na ca MA 1 ∧ Pe wr N Ab na cb lb 1 ∧ Pe wr N Ax na cx LX 190 ∧ Bx wr gd (ngB D) Ad kd cd ∧ Zn wr Ad kd cd D 200 ∧ gd < N ∧ Below w.heap.size w wr
/-- The sum of the first k products. -/
def suF (MA : List (List Int)) (LX : List Int) (i k : Nat) : Int := MD.sm k fun u => mx MA i u * LX.getD u 0
theorem su_next {MA : List (List Int)} {LX : List Int} {i k : Nat} (hi : i < MA.length) (hk : k < MA[i].length) (hx : k < LX.length) : suF MA LX i k + MA[i][k] * LX[k] = suF MA LX i (k + 1) := by
  rw [← mx_at hi hk, show LX[k] = LX.getD k 0 by simp [List.getD, hx]]
  rfl
theorem su_all {MA : List (List Int)} {LX lb : List Int} {n i : Nat} {D : Int} (hL : lsN n (svx n (mx MA) lb) = LX) (hD : MD.det n (mx MA) = D) (hi : i < n) (hb : i < lb.length) : suF MA LX i n = D * lb[i] := by
  subst hL hD
  rw [show lb[i] = lb.getD i 0 by simp [List.getD, hb], ← svx_sol hi]
  exact MD.sm_congr fun k hk => by rw [lsN_getD hk]
theorem sg_eq0 {D : Int} (h : D ≠ 0) : (sgnI D == (0 : Int)) = false := by
  unfold sgnI; split <;> (try split) <;> simp_all
set_option maxHeartbeats 4000000 in
/-- The law. -/
theorem MatrixCramers_any {A Ab : Option Addr} {na ca nb cb : Nat} {MA : List (List Int)} {lb : List Int} {w : World} (aa : Ma w A na ca MA) (ab : Pa w Ab nb cb lb) :
    Calls Tryz.prog 9 #[.slice A na ca, .slice Ab nb cb] w fun e w' => e = .returned (.bool true) ∧ Below w.heap.size w w' := by
  have hb := Below.refl w.heap.size w
  go_enter Tryz.func9, Tryz.ntmps9
  go_wp2_with fail
  with_reducible refine (LMshown_any).mono ?_
  rintro e v1 ⟨rfl, hb1⟩
  obtain ⟨aa, ab, hb⟩ := mv3 hb1 aa ab hb
  clear hb1
  go_wp2_with fail
  refine (RMFits_any (R := 6) (C := 6) (L := 1) aa (by omega) (by omega) (by omega)).mono ?_
  rintro e v2 ⟨hc, hb1⟩
  obtain ⟨aa, ab, hb⟩ := mv3 hb1 aa ab hb
  clear hb1
  rcases hc with rfl | ⟨rfl, Na, ra, pa⟩
  · go_wp2; go_ret; exact ⟨rfl, hb⟩
  replace pa := pa.me
  have Ra := Lib.hid ra
  clear aa ra
  go_wp2_with fail
  refine (RFits_any (N := 6) (M := 1) ab (by omega) (by omega)).mono ?_
  rintro e v3 ⟨β, rfl, h1, hb1⟩
  obtain ⟨ab, pa, hb⟩ := mv3 hb1 ab pa hb
  clear hb1
  cases β
  · go_wp2; go_ret; exact ⟨rfl, hb⟩
  obtain ⟨Nb, pb⟩ := h1 rfl
  replace pb := pb.pe
  clear h1 ab
  have hk6 : kb 1 na ≤ 190 := Nat.le_trans (kb_mono Na) (by decide)
  have hlb := pb.pd.len
  by_cases hr : Rt MA na na ∧ lb.length = na
  rotate_left
  · skip
    have HLB := Lib.hid hlb; clear hlb
    go_wp2_with fail
    with_reducible refine (MSolve_any (J := 1) pa.md pb.pd (by omega) (by omega) (by omega)).mono ?_
    rintro e v4 ⟨hb1, hcase⟩
    obtain ⟨pa, pb, hb⟩ := mv3 hb1 pa pb hb
    clear hb1
    obtain ⟨_, rfl⟩ := hcase.resolve_right (fun h => by rcases h with h | h <;> exact hr ⟨h.1, h.2.1⟩)
    clear hcase
    go_wp2_with fail
    refine al1c fun v5 hb1 x_d => ?_
    replace x_d := Bx.of x_d
    obtain ⟨pa, pb, hb⟩ := mv3 hb1 pa pb hb
    clear hb1
    have q_d := x_d.al
    with_reducible refine (MDet_any (J := 1) pa.md (by omega) (by omega) (by omega)).mono ?_
    rintro e v70 ⟨hb1, (⟨hno, rfl⟩ | ⟨hyes, Aw, kw, cw, rfl, zw⟩)⟩
    · skip
      obtain ⟨x_d, pa, pb, hb⟩ := mv4 hb1 x_d pa pb hb
      clear hb1
      replace q_d := x_d.al
      go_wp2
      go_ret
      exact ⟨rfl, by first | exact hb | exact bthen hb (below_alloc _ _)⟩
    · skip
      obtain ⟨x_d, pa, pb, hb⟩ := mv4 hb1 x_d pa pb hb
      clear hb1
      replace q_d := x_d.al
      have hne : ((nb : Int) != (na : Int)) = true := by have := HLB.out; have : ¬ (nb = na) := fun e => hr ⟨hyes, by omega⟩; simp; omega
      clear zw hyes
      go_wp2
      go_ret
      exact ⟨rfl, by first | exact hb | exact bthen hb (below_alloc _ _)⟩
  obtain ⟨hr, hl2⟩ := hr
  obtain rfl : na = nb := hl2.symm.trans hlb
  have HR := Lib.hid hr; have HLB := Lib.hid hlb; have hn0 := hr.2.1
  clear hr hl2 hlb
  obtain ⟨D, hD⟩ : ∃ D, MD.det na (mx MA) = D := ⟨_, rfl⟩
  have HD := Lib.hid hD; clear hD
  by_cases hd0 : D = 0
  · skip
    subst hd0
    go_wp2_with fail
    with_reducible refine (MSolve_any (J := 1) pa.md pb.pd (by omega) (by omega) (by omega)).mono ?_
    rintro e v4 ⟨hb1, hcase⟩
    obtain ⟨pa, pb, hb⟩ := mv3 hb1 pa pb hb
    clear hb1
    obtain ⟨_, _, _, rfl⟩ := (hcase.resolve_left (fun h => h.1 ⟨HR.out, HLB.out⟩)).resolve_right (fun h => h.2.2.1 HD.out)
    clear hcase
    go_wp2_with fail
    refine al1c fun v5 hb1 x_d => ?_
    replace x_d := Bx.of x_d
    obtain ⟨pa, pb, hb⟩ := mv3 hb1 pa pb hb
    clear hb1
    have q_d := x_d.al
    with_reducible refine (MDet_any (J := 1) pa.md (by omega) (by omega) (by omega)).mono ?_
    rintro e v6 ⟨hb1, hcase⟩
    obtain ⟨x_d, pa, pb, hb⟩ := mv4 hb1 x_d pa pb hb
    clear hb1
    replace q_d := x_d.al
    obtain ⟨_, Aw, kw, cw, rfl, zw⟩ := hcase.resolve_left (fun h => h.1 HR.out)
    clear hcase
    rw [HD.out] at zw ⊢
    go_wp2_with fail
    refine al1c fun v7 hb1 x_w => ?_
    replace x_w := Bx.of x_w
    obtain ⟨x_d, pa, pb, zw, hb⟩ := mv5 hb1 x_d pa pb zw hb
    clear hb1
    replace q_d := x_d.al
    have q_w := x_w.al
    with_reducible refine (RSignZ_any zw.zr (by omega)).mono ?_
    rintro e v8 ⟨rfl, hb1⟩
    obtain ⟨x_d, x_w, pa, pb, zw, hb⟩ := mv6 hb1 x_d x_w pa pb zw hb
    clear hb1
    replace q_d := x_d.al
    replace q_w := x_w.al
    rw [show sgnI 0 = 0 from rfl]
    go_wp2
    go_ret
    exact ⟨rfl, by first | exact hb | exact bthen hb (below_alloc _ _)⟩
  go_wp2_with fail
  with_reducible refine (MSolve_any (J := 1) pa.md pb.pd (by omega) (by omega) (by omega)).mono ?_
  rintro e v4 ⟨hb1, hcase⟩
  obtain ⟨pa, pb, hb⟩ := mv3 hb1 pa pb hb
  clear hb1
  obtain ⟨_, _, _, Ax, cx, Ad, kd, cd, rfl, px, zd⟩ := (hcase.resolve_left (fun h => h.1 ⟨HR.out, HLB.out⟩)).resolve_left (fun h => hd0 (HD.out.symm.trans h.2.2.1))
  clear hcase
  rw [HD.out] at zd ⊢
  obtain ⟨LX, hLX⟩ : ∃ L, lsN na (svx na (mx MA) lb) = L := ⟨_, rfl⟩
  rw [hLX] at px
  have HLX := Lib.hid hLX; clear hLX
  replace px := (px.kto (show kb 1 na ≤ 190 by omega)).pd.pe
  replace zd := zd.wide (show kb 1 na ≤ 200 by omega)
  have hs0 := sg_eq0 hd0
  go_wp2_with fail
  refine al1c fun v5 hb1 x_d => ?_
  replace x_d := Bx.of x_d
  obtain ⟨pa, pb, px, zd, hb⟩ := mv5 hb1 pa pb px zd hb
  clear hb1
  have q_d := x_d.al
  with_reducible refine (MDet_any (J := 1) pa.md (by omega) (by omega) (by omega)).mono ?_
  rintro e v6 ⟨hb1, hcase⟩
  obtain ⟨x_d, pa, pb, px, zd, hb⟩ := mv6 hb1 x_d pa pb px zd hb
  clear hb1
  replace q_d := x_d.al
  obtain ⟨_, Aw, kw, cw, rfl, zw⟩ := hcase.resolve_left (fun h => h.1 HR.out)
  clear hcase
  rw [HD.out] at zw ⊢
  go_wp2_with fail
  refine al1c fun v7 hb1 x_w => ?_
  replace x_w := Bx.of x_w
  obtain ⟨x_d, pa, pb, px, zd, zw, hb⟩ := mv7 hb1 x_d pa pb px zd zw hb
  clear hb1
  replace q_d := x_d.al
  have q_w := x_w.al
  with_reducible refine (RSignZ_any zw.zr (by omega)).mono ?_
  rintro e v8 ⟨rfl, hb1⟩
  obtain ⟨x_d, x_w, pa, pb, px, zd, zw, hb⟩ := mv8 hb1 x_d x_w pa pb px zd zw hb
  clear hb1
  replace q_d := x_d.al
  replace q_w := x_w.al
  go_wp2_with fail
  with_reducible refine (RExact_any zd zw).mono ?_
  rintro e v9 ⟨rfl, hb1⟩
  obtain ⟨x_d, x_w, pa, pb, px, zd, zw, hb⟩ := mv8 hb1 x_d x_w pa pb px zd zw hb
  clear hb1
  replace q_d := x_d.al
  replace q_w := x_w.al
  rw [show decide (D = D) = true from decide_eq_true rfl]
  clear zw
  clear x_w q_w
  go_wp2_with fail
  obtain ⟨gd, hgd⟩ : ∃ g, g = v4.heap.size := ⟨_, rfl⟩
  rw [← hgd] at x_d ⊢
  have hdN := x_d.lt
  obtain ⟨N0, hN0⟩ : ∃ g, g = v9.heap.size := ⟨_, rfl⟩
  have hr0 : CrL w N0 A Ab Ax Ad na ca cb cx kd cd gd MA lb LX D v9 := by rw [hN0]; exact ⟨pa.md.me, pb.pd.pe, px.pd.pe, x_d, zd, hdN, hb⟩
  clear pa pb px x_d q_d zd hb hdN hgd hN0
  go_loopw [11] (fun kv wr => ∃ (wo : World) (i : Nat), wo = wr ∧ i ≤ na ∧ kv = .int .i64 (i : Int) ∧ CrL w N0 A Ab Ax Ad na ca cb cx kd cd gd MA lb LX D wo) (fun kv _ => na - (intOf kv).toNat)
  case atStart => exact ⟨_, 0, rfl, by omega, rfl, hr0⟩
  case round =>
    clear hr0
    obtain ⟨wo, i, rfl, hi, rfl, pa, pb, px, x_d, zd, hdN, hb⟩ := hrel
    rcases (show na = i ∨ i < na by omega) with hin | hin
    · subst hin; go_wp2; go_ret; exact ⟨rfl, hb⟩
    have hNr := pa.1
    have hb0 := hb
    have hLM : i < MA.length := by rw [pa.len]; exact hin
    have hLM2 := Lib.hid hLM
    go_upto_region 16 with fail
    refine al1 fun v10 hb1 x_s => ?_
    replace x_s := Bx.of x_s
    obtain ⟨x_d, pa, pb, px, zd, hb⟩ := mv6 hb1 x_d pa pb px zd hb
    clear hb1
    have q_s := x_s.al
    have q_d := x_d.al
    have hrw := hb0.size
    skip
    have hr1 : (fun (k : Nat) (wq : World) => (∃ A4 n4 c4, Bx wq wo.heap.size (ngB (suF MA LX i k)) A4 n4 c4 ∧ Zn wq A4 n4 c4 (suF MA LX i k) (191 + k)) ∧ w.heap.size ≤ wo.heap.size ∧ CrL w N0 A Ab Ax Ad na ca cb cx kd cd gd MA lb LX D wq) 0 v10 := ⟨⟨none, 0, 0, x_s, Zn.zero _ _⟩, by omega, pa, pb, px, x_d, zd, hdN, hb⟩
    clear pa pb px x_d q_d zd hb x_s q_s hb0
    go_wp2_with fail
    go_loopw [13] (fun kv wq => ∃ k : Nat, k ≤ na ∧ kv = .int .i64 (k : Int) ∧ (∃ A4 n4 c4, Bx wq wo.heap.size (ngB (suF MA LX i k)) A4 n4 c4 ∧ Zn wq A4 n4 c4 (suF MA LX i k) (191 + k)) ∧ w.heap.size ≤ wo.heap.size ∧ CrL w N0 A Ab Ax Ad na ca cb cx kd cd gd MA lb LX D wq) (fun kv _ => na - (intOf kv).toNat)
    case atStart => exact ⟨0, by omega, rfl, hr1⟩
    case round =>
      clear hr1
      obtain ⟨k, hk, rfl, ⟨A4, n4, c4, x_s, z4⟩, hws, pa, pb, px, x_d, zd, _, hb⟩ := hrel
      rcases (show na = k ∨ k < na by omega) with hkn | hkn
      · skip
        subst hkn
        obtain ⟨d8, o8, b8, A8, n8, c8, rfl, hd8, x_g, zg⟩ := pb.ec (k := i) hin
        have hlb2 : i < lb.length := by rw [pb.pd.len]; exact hin
        have HSU := Lib.hid (su_all HLX.out HD.out hin hlb2)
        generalize lb[i] = Y at zg HSU
        generalize suF MA LX i na = S at x_s z4 HSU
        have q_d := x_d.al
        have q_s := x_s.al
        have q_g := x_g.al
        go_upto_region 20 with fail
        go_region_held3 (fun w' => w'.cell? ⟨wo.heap.size, 0, none⟩ = some (.bool (ngB S)) ∧ w'.cell? ⟨wo.heap.size, 1, none⟩ = some (.slice A4 n4 c4) ∧ w'.cell? ⟨gd, 0, none⟩ = some (.bool (ngB D)) ∧ w'.cell? ⟨gd, 1, none⟩ = some (.slice Ad kd cd) ∧ w'.cell? ⟨d8, o8 + i * 2, none⟩ = some (.bool b8) ∧ w'.cell? ⟨d8, o8 + i * 2 + 1, none⟩ = some (.slice A8 n8 c8))
          (first | (with_reducible exact ⟨x_s.c0, x_s.c1, x_d.c0, x_d.c1, x_g.c0, x_g.c1⟩) | go_keep)
          (first | (go_at_call 49; (with_reducible refine (RMulZ_any zd.zr.drw zg.drw 210 (by omega) (by omega)).mono ?_); rintro e v11 ⟨A9, n9, c9, rfl, z9, hb1⟩; replace hb1 := undrew hb1; obtain ⟨x_d, x_s, x_g, pa, pb, px, zd, z4, zg⟩ := mv9 hb1 x_d x_s x_g pa pb px zd z4 zg; replace hb := Mv.mv hb hb1; clear hb1; replace q_d := x_d.al; replace q_s := x_s.al; replace q_g := x_g.al) | (go_at_call 15; (with_reducible refine (RExact_any z4 z9).mono ?_); rintro e v12 ⟨rfl, hb1⟩; obtain ⟨x_d, x_s, x_g, pa, pb, px, zd, z4, zg⟩ := mv9 hb1 x_d x_s x_g pa pb px zd z4 zg; obtain ⟨z9, hb⟩ := mv2 hb1 z9 hb; clear hb1; replace q_d := x_d.al; replace q_s := x_s.al; replace q_g := x_g.al; rw [show decide (S = D * Y) = true from decide_eq_true (HSU.out)]))
        go_wp2_with fail
        exact ⟨⟨_, i + 1, rfl, by omega, by go_num, pa, pb, px, x_d, zd, hdN, hb⟩, by simp [intOf]; omega⟩
      obtain ⟨d5, o5, A5, n5, c5, rfl, hd5, x_e, z5⟩ := pa.row (k := i) hin
      obtain rfl : na = n5 := (HR.out.row_len hin).symm.trans z5.pd.len
      obtain ⟨d6, o6, b6, A6, n6, c6, rfl, hd6, x_f, zf⟩ := z5.ec (k := k) hkn
      obtain ⟨d7, o7, b7, A7, n7, c7, rfl, hd7, x_h, zh⟩ := px.ec (k := k) hkn
      have hst := su_next hLM2.out (by rw [HR.out.row_len hin]; exact hkn) (show k < LX.length by rw [px.pd.len]; exact hkn)
      skip
      obtain ⟨X, hX⟩ : ∃ X, (MA[i]'hLM2.out)[k]'(by rw [HR.out.row_len hin]; exact hkn) = X := ⟨_, rfl⟩
      obtain ⟨Y, hY⟩ : ∃ Y, LX[k]'(by rw [px.pd.len]; exact hkn) = Y := ⟨_, rfl⟩
      rw [hX, hY] at hst
      rw [hX] at zf
      rw [hY] at zh
      obtain ⟨S, hS⟩ : ∃ S, suF MA LX i k = S := ⟨_, rfl⟩
      rw [hS] at hst x_s z4
      have HS := Lib.hid hst
      clear hst hX hY hS
      have q_d := x_d.al
      have q_s := x_s.al
      have q_e := x_e.al
      have q_f := x_f.al
      have q_h := x_h.al
      go_upto_region 19 with fail
      go_region_law (first | (go_simp; go_at_call 49; (with_reducible refine (RMulZ_any zf.drw zh.drw 191 (by omega) (by omega)).mono ?_); rintro e v11 ⟨A9, n9, c9, rfl, z9, hb1⟩; replace hb1 := undrew hb1; obtain ⟨x_d, x_s, x_e, x_f, x_h, pa, pb, px, zd⟩ := mv9 hb1 x_d x_s x_e x_f x_h pa pb px zd; obtain ⟨z4, zf, zh, z5, hb⟩ := mv5 hb1 z4 zf zh z5 hb; clear hb1; replace q_d := x_d.al; replace q_s := x_s.al; replace q_e := x_e.al; replace q_f := x_f.al; replace q_h := x_h.al) | (go_simp; go_at_call 50; (with_reducible refine (RAddZ_any z4.zr z9.zr (191 + (k + 1)) (by omega) (by omega) (by omega)).mono ?_); rintro e v12 ⟨A10, n10, c10, rfl, z10, hb1⟩; obtain ⟨x_d, x_s, x_e, x_f, x_h, pa, pb, px, zd⟩ := mv9 hb1 x_d x_s x_e x_f x_h pa pb px zd; obtain ⟨z4, zf, zh, z5, z9, hb⟩ := mv6 hb1 z4 zf zh z5 z9 hb; clear hb1; replace q_d := x_d.al; replace q_s := x_s.al; replace q_e := x_e.al; replace q_f := x_f.al; replace q_h := x_h.al; rw [HS.out] at z10 ⊢))
      all_goals
        go_wp2_with fail
        refine ⟨⟨k + 1, by omega, by go_num, ?_⟩, by simp [intOf]; omega⟩
        clear q_d q_s q_e q_f q_h
        refine x_s.st (F := fun wq => (∃ A4 n4 c4, Bx wq wo.heap.size (ngB (suF MA LX i (k + 1))) A4 n4 c4 ∧ Zn wq A4 n4 c4 (suF MA LX i (k + 1)) (191 + (k + 1))) ∧ w.heap.size ≤ wo.heap.size ∧ CrL w N0 (some ⟨d5, o5, none⟩) Ab (some ⟨d7, o7, none⟩) Ad na ca cb cx kd cd gd MA lb LX D wq) fun v13 hs hx => ?_
        obtain ⟨x_d, x_e, x_f, x_h, pa, pb, px, zd, z4⟩ := ms9 hs ⟨by omega, by omega, by omega, by omega, by omega, by omega, by omega, trivial, trivial⟩ x_d x_e x_f x_h pa pb px zd z4
        obtain ⟨zf, zh, z5, z9, z10, hb⟩ := ms6 hs ⟨trivial, trivial, by omega, trivial, trivial, by omega⟩ zf zh z5 z9 z10 hb
        replace x_s := hx; clear hx hs
        have q_d := x_d.al
        have q_s := x_s.al
        have q_e := x_e.al
        have q_f := x_f.al
        have q_h := x_h.al
        exact ⟨⟨A10, n10, c10, x_s, z10⟩, hws, pa, pb, px, x_d, zd, hdN, hb⟩
end Go.Proofs.YtbpamkpclofnbaaGreat
