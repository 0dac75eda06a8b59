/-
  the document: Mul.
-/
import Derived.Test.YtlaphcimlingaaaGreatVRt
namespace Go.Proofs.YtlaphcimlingaaaGreat
open Go.RowKit
open MP.Se (nf co)
set_option linter.unusedVariables false
set_option maxRecDepth 100000

/-- The first products that come to the power k. -/
def mz (p q : MP.Se) (k : Nat) : Nat → Int
  | 0 => 0
  | i + 1 => mz p q k i + p i * q (k - i)
theorem mz_tl (p q : MP.Se) (k : Nat) : ∀ i, mz p q (k + 1) (i + 1) = p 0 * q (k + 1) + mz (MP.Se.tl p) q k i
  | 0 => by simp [mz]
  | i + 1 => by
    rw [mz, mz_tl p q k i, mz, show k + 1 - (i + 1) = k - i by omega, Int.add_assoc]; rfl
theorem mz_all : ∀ (k : Nat) (p q : MP.Se), (p * q) k = mz p q k (k + 1)
  | 0, p, q => by simp [mz, MP.Se.mul_0]
  | k + 1, p, q => by rw [MP.Se.mul_at, mz_all k, mz_tl]
theorem mz_low {p q : MP.Se} {k : Nat} : ∀ {i : Nat}, (∀ j, j < i → q (k - j) = 0) → mz p q k i = 0
  | 0, _ => rfl
  | i + 1, h => by rw [mz, mz_low fun j hj => h j (by omega), h i (by omega)]; simp
theorem mz_high {p q : MP.Se} {k i : Nat} (h : ∀ j, i ≤ j → p j = 0) : ∀ {m}, i ≤ m → mz p q k m = mz p q k i
  | 0, hm => by rw [show i = 0 by omega]
  | m + 1, hm => by
    by_cases e : i = m + 1
    · rw [e]
    · rw [mz, mz_high h (m := m) (by omega), h m (by omega)]; simp
theorem Gr.of_sto {W v : World} {g : Nat} (s : Sto W g v) : Gr (.slice (some ⟨g, 0, none⟩) 0 0) W v := ⟨⟨s.os, s.tape, s.output, Nat.le_of_eq s.size.symm, fun k hk hr => s.block k (fun e => hr (by rw [e]; rfl))⟩, fun _ _ _ _ r => r.sto s⟩
theorem Gz.sto {W v : World} {B J g : Nat} {s : Value} {l : List Int} (h : Gz W B J s l) (hne : s.ownBlock ≠ some g) (hs : Sto W g v) : Gz v B J s l :=
  h.gr (Gr.of_sto hs) (fun k hk => by
    have e : g = k := by simpa [Value.ownBlock] using hk
    subst e
    exact hne)
/-- What the inner loop of Mul keeps. -/
def MlR (w : World) (K : Nat) (s : Value) (l : List Int) (gc : Nat) (V : Int) (j : Nat) (wr : World) : Prop :=
  Gz wr w.heap.size K s l ∧ (∃ A n c, Bx wr gc (ngB V) A n c ∧ Zn wr A n c V j) ∧ Below w.heap.size w wr
set_option maxHeartbeats 8000000 in
theorem DoMul_any {A A2 : Option Addr} {n c n2 c2 J J2 K : Nat} {l l2 : List Int} {w : World} (h : Pd w w.heap.size A n c l J) (h2 : Pd w w.heap.size A2 n2 c2 l2 J2) (hK : J + J2 + n ≤ K) (hK2 : K ≤ 90000) (hn : n + n2 ≤ 1000) :
    Calls Tryz.prog 29 #[.slice A n c, .slice A2 n2 c2] w (OutN w (co l * co l2) K) := by
  have hl := h.len; have hl2 := h2.len
  have hle := MP.Se.nf_len l; have hle2 := MP.Se.nf_len l2
  obtain ⟨p, hp⟩ : ∃ p, co l = p := ⟨_, rfl⟩
  obtain ⟨q, hq⟩ : ∃ q, co l2 = q := ⟨_, rfl⟩
  obtain ⟨s, hs⟩ : ∃ s, p * q = s := ⟨_, rfl⟩
  obtain ⟨M, hM⟩ : ∃ M, (nf l).length = M := ⟨_, rfl⟩
  obtain ⟨N, hN⟩ : ∃ N, (nf l2).length = N := ⟨_, rfl⟩
  obtain ⟨mi, hmi⟩ : ∃ mi : Int, (M : Int) - 1 = mi := ⟨_, rfl⟩
  obtain ⟨ni, hni⟩ : ∃ ni : Int, (N : Int) - 1 = ni := ⟨_, rfl⟩
  have hPB : MP.Se.Bd p M := by rw [← hp, ← hM, ← MP.Se.co_nf l]; exact MP.Se.co_bd _
  have hQB : MP.Se.Bd q N := by rw [← hq, ← hN, ← MP.Se.co_nf l2]; exact MP.Se.co_bd _
  obtain ⟨T, hT⟩ : ∃ T : Nat, (mi < 0 ∧ T = 0) ∨ (0 ≤ mi ∧ ni < 0 ∧ T = 0) ∨ (0 ≤ mi ∧ 0 ≤ ni ∧ (T : Int) = mi + ni + 1) := by
    by_cases h1 : mi < 0
    · exact ⟨0, .inl ⟨h1, rfl⟩⟩
    · by_cases h2 : ni < 0
      · exact ⟨0, .inr (.inl ⟨by omega, h2, rfl⟩)⟩
      · exact ⟨(mi + ni + 1).toNat, .inr (.inr ⟨by omega, by omega, by omega⟩)⟩
  have hB : MP.Se.Bd s T := by
    rw [← hs]
    rcases hT with h | h | h
    · rw [show p = MP.Se.c 0 from MP.Se.Bd.zero (by rw [show M = 0 by omega] at hPB; exact hPB), MP.Se.zero_mul]; exact MP.Se.Bd.c0 _
    · rw [show q = MP.Se.c 0 from MP.Se.Bd.zero (by rw [show N = 0 by omega] at hQB; exact hQB), MP.Se.mul_zero]; exact MP.Se.Bd.c0 _
    · obtain ⟨M', rfl⟩ : ∃ M', M = M' + 1 := ⟨M - 1, by omega⟩
      obtain ⟨N', rfl⟩ : ∃ N', N = N' + 1 := ⟨N - 1, by omega⟩
      exact (MP.Se.mul_bd hPB hQB).1.le (by omega)
  have hT2 : T ≤ 1000 := by omega
  have HB := Lib.hid hB
  have HS : Hid (∀ k, s k = mz p q k (k + 1)) := Lib.hid fun k => by rw [← hs]; exact mz_all k p q
  have hs9 : co l * co l2 = s := by rw [hp, hq, hs]
  rw [hs9]
  have HP := Lib.hid hp; have HQ := Lib.hid hq; have HPB := Lib.hid hPB; have HQB := Lib.hid hQB
  have HM := Lib.hid hM; have HN := Lib.hid hN; have HMI := Lib.hid hmi; have HNI := Lib.hid hni
  have hMb : M ≤ n ∧ N ≤ n2 ∧ mi + 1 = M ∧ ni + 1 = N := by omega
  have HMB := Lib.hid hMb; have HT := Lib.hid hT
  have hmb : -1 ≤ mi ∧ mi ≤ 1000 ∧ -1 ≤ ni ∧ ni ≤ 1000 ∧ mi + ni ≤ 1000 := by omega
  replace h := h.pe; replace h2 := h2.pe
  have H := Lib.hid h; have H2 := Lib.hid h2
  clear hl hl2 hle hle2 hp hq hs hM hN hmi hni hPB hQB hB hs9 h h2 hMb hT
  go_enter Tryz.func29, Tryz.ntmps29
  go_upto_region 2 with fail
  refine al1 fun v1 hb x_o => ?_
  have gz : Gz v1 w.heap.size K (.slice (some ⟨w.heap.size, 0, none⟩) 0 0) (MP.Se.ls 0 s) := gz_new x_o (Nat.le_refl _)
  clear x_o
  go_wp2_with fail
  with_reducible refine (RDegree_any (H.out.keep hb).pd (by omega)).mono ?_
  rintro e v2 ⟨rfl, hb1⟩
  rw [HM.out, HMI.out]
  replace gz := gz.keep hb1
  replace hb := bthen hb hb1
  clear hb1
  go_wp2_with fail
  with_reducible refine (RDegree_any (H2.out.keep hb).pd (by omega)).mono ?_
  rintro e v3 ⟨rfl, hb1⟩
  rw [HN.out, HNI.out]
  replace gz := gz.keep hb1
  replace hb := bthen hb hb1
  clear hb1
  go_wp2_with fail
  go_loopw [5, 8] (fun sv kv wr => ∃ (k : Nat) (t : Value), t = sv ∧ k ≤ T ∧ kv = .int .i64 (k : Int) ∧ Gz wr w.heap.size K t (MP.Se.ls k s) ∧ Below w.heap.size w wr) (fun _ kv _ => T - (intOf kv).toNat)
  case atStart => exact ⟨0, _, rfl, by omega, rfl, gz, hb⟩
  case round =>
    clear gz hb
    obtain ⟨k, sv, rfl, hk, rfl, gz, hb⟩ := hrel
    have htk : Hid (MP.Se.ls k s ++ [s k] = MP.Se.ls (k + 1) s) := Lib.hid (MP.Se.ls_succ k s).symm
    have hln : (MP.Se.ls k s).length ≤ 1000 := by rw [MP.Se.len_ls]; omega
    have w1 : IntKind.i64.wrap (mi + ni) = mi + ni := i64_keep (by omega) (by omega)
    rcases HT.out with ⟨h1, h2⟩ | ⟨h0, h1, h2⟩ | ⟨h0, h1, h2⟩
    · obtain rfl : T = k := by omega
      clear h2
      obtain ⟨A5, c5, rfl, p⟩ := gz.pn (by omega)
      rw [MP.Se.len_ls] at p
      rw [MP.Se.len_ls]
      clear gz htk
      go_wp2_with fail
      with_reducible refine (DoNorm_any p.pd (by omega) (by omega)).mono ?_
      rintro e v4 ⟨L, A6, n6, c6, rfl, hN, hL, p6, hb1⟩
      have hL2 := Lib.hid (hL.trans (MP.Se.co_ls HB.out))
      replace hb := bthen hb hb1
      clear hL p hb1
      go_wp2
      go_ret
      exact ⟨L, _, _, _, rfl, hN, hL2.out, p6, hb⟩
    · obtain rfl : T = k := by omega
      clear h2
      obtain ⟨A5, c5, rfl, p⟩ := gz.pn (by omega)
      rw [MP.Se.len_ls] at p
      rw [MP.Se.len_ls]
      clear gz htk
      go_wp2_with fail
      with_reducible refine (DoNorm_any p.pd (by omega) (by omega)).mono ?_
      rintro e v4 ⟨L, A6, n6, c6, rfl, hN, hL, p6, hb1⟩
      have hL2 := Lib.hid (hL.trans (MP.Se.co_ls HB.out))
      replace hb := bthen hb hb1
      clear hL p hb1
      go_wp2
      go_ret
      exact ⟨L, _, _, _, rfl, hN, hL2.out, p6, hb⟩
    · rcases (show T = k ∨ k < T by omega) with hin | hin
      · subst hin
        have hend : ¬ ((T : Int) ≤ mi + ni) := by omega
        obtain ⟨A5, c5, rfl, p⟩ := gz.pn (by omega)
        rw [MP.Se.len_ls] at p
        rw [MP.Se.len_ls]
        clear gz htk
        go_wp2_with fail
        with_reducible refine (DoNorm_any p.pd (by omega) (by omega)).mono ?_
        rintro e v4 ⟨L, A6, n6, c6, rfl, hN, hL, p6, hb1⟩
        have hL2 := Lib.hid (hL.trans (MP.Se.co_ls HB.out))
        replace hb := bthen hb hb1
        clear hL p hb1
        go_wp2
        go_ret
        exact ⟨L, _, _, _, rfl, hN, hL2.out, p6, hb⟩
      · have hgo : (k : Int) ≤ mi + ni := by omega
        have w2 : IntKind.i64.wrap ((k : Int) - ni) = (k : Int) - ni := i64_keep (by omega) (by omega)
        obtain ⟨m, rfl⟩ : ∃ m : Nat, mi = m := ⟨mi.toNat, by omega⟩
        obtain ⟨i0, hi0, hst⟩ : ∃ i0 : Nat, (((k : Int) - ni ≤ 0 ∧ i0 = 0) ∨ (0 < (k : Int) - ni ∧ (k : Int) - ni = (i0 : Int))) ∧ Hid (mz p q k i0 = 0) := by
          by_cases hz0 : (k : Int) - ni ≤ 0
          · exact ⟨0, .inl ⟨hz0, rfl⟩, Lib.hid rfl⟩
          · exact ⟨((k : Int) - ni).toNat, .inr ⟨by omega, by omega⟩, Lib.hid (mz_low fun j hj => HQB.out _ (by have := HMB.out; omega))⟩
        obtain ⟨i1, hi1, hfin⟩ : ∃ i1 : Nat, (((k : Int) < m ∧ i1 = k) ∨ ((m : Int) ≤ k ∧ i1 = m)) ∧ Hid (mz p q k (i1 + 1) = s k) := by
          by_cases hz0 : (k : Int) < m
          · exact ⟨k, .inl ⟨hz0, rfl⟩, Lib.hid (HS.out k).symm⟩
          · exact ⟨m, .inr ⟨by omega, rfl⟩, Lib.hid ((HS.out k).trans (mz_high (fun j hj => HPB.out _ (by have := HMB.out; omega)) (by omega))).symm⟩
        have h01 : i0 ≤ i1 + 1 := by omega
        have hi1b : i1 ≤ 1000 ∧ i1 + 1 ≤ n := by have := HMB.out; omega
        have hne := gz.ne (k := wr.heap.size) (.inr (Nat.le_refl _))
        have hgw := hb.size
        have E0 := Lib.hid hi0
        rcases hi0 with ⟨z0, e0⟩ | ⟨z0, e0⟩
        all_goals (
          have hk1m : i1 ≤ k ∧ i1 ≤ m := by omega
          have K1 : Hid (((k : Int) < m ∧ i1 = k) ∨ ((m : Int) ≤ k ∧ i1 = m)) := Lib.hid hi1
          rcases hi1 with ⟨k0, k1⟩ | ⟨k0, k1⟩
          all_goals (
            clear k1 e0
            go_upto_region 8 with fail
            refine al1 fun v4 hb1 x_c => ?_
            replace x_c := Bx.of x_c
            replace gz := gz.keep hb1
            replace hb := bthen hb hb1
            obtain ⟨gc, hgc⟩ : ∃ g, wr.heap.size = g := ⟨_, rfl⟩
            rw [hgc] at x_c hne hgw ⊢
            clear hb1 hgc
            go_wp2_with fail
            go_loopw [10] (fun kv wx => ∃ i : Nat, i0 ≤ i ∧ i ≤ i1 + 1 ∧ kv = .int .i64 (i : Int) ∧ MlR w K sv (MP.Se.ls k s) gc (mz p q k i) (J + J2 + i) wx) (fun kv _ => i1 + 1 - (intOf kv).toNat)
            case atStart => exact ⟨_, Nat.le_refl _, h01, by first | rfl | (have := E0.out; congr 1; omega), gz, ⟨_, _, _, by rw [hst.out]; exact x_c, by rw [hst.out]; exact Zn.zero _ _⟩, hb⟩
            case round =>
              clear gz hb x_c
              obtain ⟨i, hil, hih, rfl, gz, ⟨A7, n7, c7, x_c, zc⟩, hb⟩ := hrel
              rcases (show i = i1 + 1 ∨ i < i1 + 1 by omega) with hii | hii
              · subst hii
                rw [hfin.out] at x_c zc
                first | have hend : ¬ (((i1 + 1 : Nat) : Int) ≤ (k : Int)) := by have := K1.out; omega
                      | have hend : ¬ (((i1 + 1 : Nat) : Int) ≤ (m : Int)) := by have := K1.out; omega
                have hss := hb.size
                replace zc := zc.kto (show J + J2 + (i1 + 1) ≤ K by omega)
                have q_c := x_c.al
                generalize MP.Se.ls k s = lm at *
                generalize s k = U at *
                go_wp2_with (at_builtin; refine wp_pushG (V := wr) rfl _ _ rfl rfl gz hln hss zc rfl ?_; intro s' w' hpu)
                have hgz := hpu.1
                rw [htk.out] at hgz
                have hb2 := Gr.below hb hss gz hpu.2.1 (Nat.le_refl _)
                clear q_c x_c gz hpu htk
                exact ⟨⟨k + 1, _, rfl, by omega, by go_num, hgz, hb2⟩, by simp [intOf]; omega⟩
              · have hgo2 : (i : Int) ≤ k ∧ (i : Int) ≤ m := by omega
                have w3 : IntKind.i64.wrap ((k : Int) - i) = ((k - i : Nat) : Int) := by rw [i64_keep (by omega) (by omega)]; omega
                have hnx : Hid (mz p q k i + p i * q (k - i) = mz p q k (i + 1)) := Lib.hid rfl
                obtain ⟨j, hj⟩ : ∃ j, k - i = j := ⟨_, rfl⟩
                rw [hj] at w3 hnx
                clear hj
                generalize mz p q k i = V at *
                obtain ⟨V2, hV2⟩ : ∃ V2, mz p q k (i + 1) = V2 := ⟨_, rfl⟩
                rw [hV2] at hnx
                have HV2 := Lib.hid hV2; clear hV2
                generalize MP.Se.ls k s = lm at *
                have q_c := x_c.al
                have once := True.intro
                have hgw2 := hb.size
                go_upto_region 11 with fail
                skip
                go_region_law (first | (clear once; go_simp; go_at_call 84; (with_reducible refine (RAt_any (H.out.keep (below_drew hb)).pd i (by omega)).mono ?_); rintro e v15 ⟨A15, n15, c15, rfl, z5, hb1⟩; rw [HP.out] at z5 ⊢; generalize p i = X at *; replace hb1 := undrew hb1; obtain ⟨x_c, zc⟩ := mv2 hb1 x_c zc; replace gz := gz.keep hb1; replace hb := bthen hb hb1; clear hb1; replace q_c := x_c.al) | (go_simp; go_at_call 84; (with_reducible refine (RAt_any (H2.out.keep hb).pd j (by omega)).mono ?_); rintro e v16 ⟨A16, n16, c16, rfl, z6, hb1⟩; obtain ⟨x_c, zc, z5⟩ := mv3 hb1 x_c zc z5; replace gz := gz.keep hb1; replace hb := bthen hb hb1; clear hb1; replace q_c := x_c.al; rw [HQ.out] at z6 ⊢; generalize q j = Y at *) | (go_simp; go_at_call 74; (with_reducible refine (RMulZ_any z5.zr z6.zr (J + J2) (by omega) (by omega)).mono ?_); rintro e v17 ⟨A17, n17, c17, rfl, z7, hb1⟩; obtain ⟨x_c, zc⟩ := mv2 hb1 x_c zc; replace gz := gz.keep hb1; replace hb := bthen hb hb1; clear hb1; replace q_c := x_c.al) | (go_simp; go_at_call 75; (with_reducible refine (RAddZ_any zc.zr z7.zr (J + J2 + i + 1) (by omega) (by omega) (by omega)).mono ?_); rintro e v18 ⟨A18, n18, c18, rfl, z8, hb1⟩; obtain ⟨x_c, zc⟩ := mv2 hb1 x_c zc; replace gz := gz.keep hb1; replace hb := bthen hb hb1; clear hb1; replace q_c := x_c.al; rw [hnx.out] at z8 ⊢))
                all_goals
                  go_wp2_with fail
                  refine ⟨⟨i + 1, by omega, by omega, by go_num, ?_⟩, by simp [intOf]; omega⟩
                  rw [HV2.out]
                  refine x_c.st (F := MlR w K sv lm gc V2 (J + J2 + (i + 1))) fun v hs hx => ?_
                  obtain ⟨z8, hb⟩ := ms2 hs ⟨trivial, hgw⟩ z8 hb
                  have g9 := gz.sto hne hs
                  exact ⟨g9, ⟨_, _, _, hx, z8⟩, hb⟩
              ))
end Go.Proofs.YtlaphcimlingaaaGreat
