/-
  polyz: the laws: shown.
-/
import Derived.Test.YtnidohbbimfpjaaVgc
import Derived.Test.YtnidohbbimfpjaaVref
import Derived.Test.YtnidohbbimfpjaaVshi
namespace Go.Proofs.Ytnidohbbimfpjaa
open Go.RowKit
open MP.Se (nf co)
set_option linter.unusedVariables false
set_option maxRecDepth 100000

theorem ser_eq {p q : MP.Se} (n : Nat) (hp : MP.Se.Bd p n) (hq : MP.Se.Bd q n) (h : MP.Se.ls n p = MP.Se.ls n q) : p = q := by
  rw [← MP.Se.co_ls hp, ← MP.Se.co_ls hq, h]
theorem mul_eq {l m k : List Int} {a b : Nat} (ha : l.length = a + 1) (hb : m.length = b + 1) (hk : k.length ≤ a + b + 1) (h : MP.Se.ls (a + b + 1) (co l * co m) = MP.Se.ls (a + b + 1) (co k)) : co l * co m = co k :=
  ser_eq (a + b + 1) (MP.Se.mul_bd (by rw [← ha]; exact MP.Se.co_bd l) (by rw [← hb]; exact MP.Se.co_bd m)).1 ((MP.Se.co_bd k).le hk) h
theorem s_a : co [1, 1] * co [-1, 1] = co [-1, 0, 1] := mul_eq (a := 1) (b := 1) rfl rfl (by decide) (by decide +kernel)
theorem s_b : MP.Se.pu (co [0, 0, 1]) (MP.Se.xa 2) = co [4, 4, 1] := by
  rw [MP.Se.pu_is (n := 3) (MP.Se.co_bd _)]
  exact ser_eq 3 (MP.Se.cp_bd2 (MP.Se.Bd.xa 2) 3 _) (MP.Se.co_bd _) (by decide +kernel)
theorem s_t : MP.Se.sm ((co [1, 2]) 1 ^ 2) (co [0, 0, 1]) = co [1, 2] * co [-1, 2] + co [1] :=
  ser_eq 3 ((MP.Se.co_bd [0, 0, 1]).sm) ((MP.Se.mul_bd (m := 1) (n := 1) (MP.Se.co_bd _) (MP.Se.co_bd _)).1.add ((MP.Se.co_bd [1]).le (by decide))) (by decide +kernel)
theorem s_p1 : primL [-2, 0, 2] = [-1, 0, 1] := by decide +kernel
theorem s_p2 : primL [4, 4] = [1, 1] := by decide +kernel
theorem s_p3 : primL [0, 0, -3, 3] = [0, 0, -1, 1] := by decide +kernel
theorem s_d : nf (MP.Se.ls (([0, 0, -1, 1] : List Int).length - 1) (MP.Se.dr (co [0, 0, -1, 1]))) = [0, -2, 3] := by decide +kernel
theorem nm_dec {l : List Int} (h : (l.getLast? == some 0) = false) : MP.Se.Nm l := fun e => by rw [e] at h; simp at h
theorem si_i {x : Int} (h0 : -9223372036854775808 ≤ x) (h1 : x ≤ 9223372036854775807) : Si x 10 := (Si.of_i64 h0 h1).mono (by omega)
theorem s_e1 : MP.Se.sm ((co [1, 1]) 1 ^ 2) (co [-1, 0, 1]) = co [1, 1] * co [-1, 1] + co [] :=
  ser_eq 3 ((MP.Se.co_bd [-1, 0, 1]).sm) ((MP.Se.mul_bd (m := 1) (n := 1) (MP.Se.co_bd _) (MP.Se.co_bd _)).1.add ((MP.Se.co_bd []).le (by decide))) (by decide +kernel)
theorem s_e2 : MP.Se.sm ((co [0, -2, 3]) 2 ^ 2) (co [0, 0, -1, 1]) = co [0, -2, 3] * co [-1, 3] + co [0, -2] :=
  ser_eq 4 ((MP.Se.co_bd [0, 0, -1, 1]).sm) ((MP.Se.mul_bd (m := 2) (n := 1) (MP.Se.co_bd _) (MP.Se.co_bd _)).1.add ((MP.Se.co_bd [0, -2]).le (by decide))) (by decide +kernel)
theorem s_e3 : MP.Se.sm ((co [0, -2]) 1 ^ 2) (co [0, -2, 3]) = co [0, -2] * co [4, -6] + co [] :=
  ser_eq 3 ((MP.Se.co_bd [0, -2, 3]).sm) ((MP.Se.mul_bd (m := 1) (n := 1) (MP.Se.co_bd _) (MP.Se.co_bd _)).1.add ((MP.Se.co_bd []).le (by decide))) (by decide +kernel)
theorem s_g1 : PgL 10 2 (primL [-2, 0, 2]) (primL [4, 4]) [1, 1] := by
  rw [s_p1, s_p2]
  show PgR 10 2 [-1, 0, 1] [1, 1] 1 1 [1, 1]
  refine .inr (.inr ⟨[], [], co [-1, 1], 1, 1, 1, 1, ⟨rfl, by omega, rfl, nm_dec rfl⟩, ⟨MP.Se.co_fn _, s_e1, (MP.Se.co_bd []).le (by decide)⟩, ⟨by decide, rfl, by decide +kernel⟩, .inr ⟨by omega, by decide, by decide⟩, ⟨(fun x h => by cases h), si_i (by omega) (by omega), si_i (by omega) (by omega)⟩, ?_⟩)
  exact .inr (.inl ⟨rfl, by decide +kernel⟩)
theorem s_g2 : PgL 10 3 (primL [0, 0, -1, 1]) (primL [0, -2, 3]) [0, 1] := by
  rw [show primL [0, 0, -1, 1] = [0, 0, -1, 1] by decide +kernel, show primL [0, -2, 3] = [0, -2, 3] by decide +kernel]
  show PgR 10 3 [0, 0, -1, 1] [0, -2, 3] 1 1 [0, 1]
  refine .inr (.inr ⟨[0, -2], [0, -2], co [-1, 3], 3, 3, 2, 1, ⟨rfl, by omega, rfl, nm_dec rfl⟩, ⟨MP.Se.co_fn _, s_e2, (MP.Se.co_bd [0, -2]).le (by decide)⟩, ⟨by decide, by decide +kernel, by decide +kernel⟩, .inr ⟨by omega, by decide, by decide⟩, ⟨fun x h => ?_, si_i (by omega) (by omega), si_i (by omega) (by omega)⟩, ?_⟩)
  · simp at h
    rcases h with rfl | rfl <;> exact si_i (by omega) (by omega)
  refine .inr (.inr ⟨[], [], co [4, -6], -2, -2, 1, 1, ⟨rfl, by omega, rfl, nm_dec rfl⟩, ⟨MP.Se.co_fn _, s_e3, (MP.Se.co_bd []).le (by decide)⟩, ⟨by decide, rfl, by decide +kernel⟩, .inr ⟨by omega, by decide, by decide⟩, ⟨(fun x h => by cases h), si_i (by omega) (by omega), si_i (by omega) (by omega)⟩, ?_⟩)
  exact .inr (.inl ⟨rfl, by decide +kernel⟩)
theorem poly_at {g : Nat} {xs : List Int} {t : TypeId} {w : World} (h : w.heap[g]? = some (.cells (xs.map (Value.int .i64)).toArray t (0, 0))) : ∀ k (hk : k < xs.length), w.cell? ⟨g, k, none⟩ = some (.int .i64 xs[k]) := fun k hk => by
  rw [cell_of_row w g k _ _ (0, 0) h]; simp [hk]
theorem Lpoly_at {g n : Nat} (xs : List Int) {t : TypeId} {w : World} (h : w.heap[g]? = some (.cells (xs.map (Value.int .i64)).toArray t (0, 0))) (hl : xs.length = n) (hn : n ≤ 100) (hbd : ∀ x ∈ xs, -9223372036854775808 ≤ x ∧ x ≤ 9223372036854775807) :
    Calls Try.prog 23 #[.slice (some ⟨g, 0, none⟩) n n] w fun e w' => ∃ A c, e = .returned (.slice A n c) ∧ Pn w' A n c xs 1 ∧ Below w.heap.size w w' :=
  Lpoly_any (poly_at h) (Array.getElem?_eq_some_iff.1 h).1 hl hn hbd
theorem quo_is {p q : MP.Se} {L m : List Int} (hL : MP.Se.Nm L) (hm : MP.Se.Nm m) (hq : MP.Se.Fn q) (h0 : q ≠ MP.Se.c 0) (e : p = q * co L) (e2 : q * co m = p) : L = m :=
  MP.Se.nm_ext hL hm (MP.Se.mul_cancel hq h0 (MP.Se.co_fn L) (MP.Se.co_fn m) (e.symm.trans e2.symm))
theorem s_ne {l : List Int} (hn : MP.Se.Nm l) (h : l ≠ []) : co l ≠ MP.Se.c 0 := fun e => h (by rw [← MP.Se.nf_id hn]; exact MP.Se.nf_nil_iff.2 e)
theorem s_gd : MP.Se.sm ((Nat.gcd (ctL [-2, 0, 2]).natAbs (ctL [4, 4]).natAbs : Nat) : Int) (co [1, 1]) = co [2, 2] := by
  rw [show ((Nat.gcd (ctL [-2, 0, 2]).natAbs (ctL [4, 4]).natAbs : Nat) : Int) = 2 by decide +kernel]
  exact ser_eq 2 (MP.Se.co_bd [1, 1]).sm (MP.Se.co_bd _) (by decide +kernel)
theorem s_1 : ((Nat.gcd (ctL [0, 0, -1, 1]).natAbs (ctL [0, -2, 3]).natAbs : Nat) : Int) = 1 := by decide +kernel
theorem s_n0 : MP.Se.sm ((Nat.gcd (ctL [0, 0, -1, 1]).natAbs (ctL [0, -2, 3]).natAbs : Nat) : Int) (co [0, 1]) ≠ MP.Se.c 0 := by
  rw [s_1, MP.Se.sm_one]; exact s_ne (nm_dec rfl) (by simp)
theorem s_gs : MP.Se.sm ((Nat.gcd (ctL [0, 0, -1, 1]).natAbs (ctL [0, -2, 3]).natAbs : Nat) : Int) (co [0, 1]) * co [0, -1, 1] = co [0, 0, -1, 1] := by
  rw [s_1, MP.Se.sm_one]; exact mul_eq (a := 1) (b := 2) rfl rfl (by decide) (by decide +kernel)
theorem s_no : ¬ MP.Se.Dv (co [1, 1]) (co [0, 0, 1]) := fun h => by
  obtain ⟨t, ht, e⟩ := h
  have e2 := congrArg (fun s => MP.Se.vl s (-1)) e
  simp only [MP.Se.vl_mul (MP.Se.co_fn [1, 1]) ht, MP.Se.vl_co] at e2
  rw [show MP.Se.hr [0, 0, 1] (-1) = 1 from rfl, show MP.Se.hr [1, 1] (-1) = 0 from rfl, Int.zero_mul] at e2
  cases e2
set_option maxHeartbeats 8000000 in
theorem Lshown_any {w : World} : Calls Try.prog 16 #[] w fun e w' => e = .returned (.bool true) ∧ Below w.heap.size w w' := by
  have hb := Below.refl w.heap.size w
  go_enter Try.func16, Try.ntmps16
  go_wp2_with fail
  refine al1c fun u1 hb1 x => ?_
  replace hb := Mv.mv hb hb1
  clear hb1
  with_reducible refine (Lpoly_at (n := 2) [1, 1] x rfl (by omega) (by decide)).mono ?_
  rintro e v1 ⟨Ap1, cp1, rfl, p1, hb1⟩
  clear x
  replace hb := Mv.mv hb hb1
  clear hb1
  go_wp2_with fail
  refine al1c fun u2 hb1 x => ?_
  obtain ⟨p1, hb⟩ := mv2 hb1 p1 hb
  clear hb1
  with_reducible refine (Lpoly_at (n := 2) [-1, 1] x rfl (by omega) (by decide)).mono ?_
  rintro e v2 ⟨Ap2, cp2, rfl, p2, hb1⟩
  clear x
  obtain ⟨p1, hb⟩ := mv2 hb1 p1 hb
  clear hb1
  go_wp2_with fail
  with_reducible refine (PMul_any (K := 6) p1.pd p2.pd (by omega) (by omega) (by omega)).mono ?_
  rintro e v3 ⟨L, hN, hL, Aa, na, ca, rfl, pa, hb1⟩
  obtain ⟨p1, p2, hb⟩ := mv3 hb1 p1 p2 hb
  clear hb1
  obtain rfl : L = [-1, 0, 1] := MP.Se.nm_ext hN (nm_dec rfl) (hL.trans s_a)
  obtain rfl : na = 3 := pa.pd.len.symm
  clear hN hL
  clear p1 p2
  go_wp2_with fail
  refine al1c fun u4 hb1 x => ?_
  obtain ⟨pa, hb⟩ := mv2 hb1 pa hb
  clear hb1
  with_reducible refine (Lpoly_at (n := 3) [0, 0, 1] x rfl (by omega) (by decide)).mono ?_
  rintro e v4 ⟨Ap1, cp1, rfl, p1, hb1⟩
  clear x
  obtain ⟨pa, hb⟩ := mv2 hb1 pa hb
  clear hb1
  go_wp2_with fail
  with_reducible refine (ROf_any 2 (by omega) (by omega)).mono ?_
  rintro e v5 ⟨A9, n9, c9, rfl, z9, hb1⟩
  obtain ⟨pa, p1, hb⟩ := mv3 hb1 pa p1 hb
  clear hb1
  go_wp2_with fail
  with_reducible refine (PShift_any (K := 28) p1.pd z9.zr (by omega) (by omega) (by omega)).mono ?_
  rintro e v6 ⟨L, hN, hL, Ab, nb, cb, rfl, pb, hb1⟩
  obtain ⟨pa, p1, z9, hb⟩ := mv4 hb1 pa p1 z9 hb
  clear hb1
  obtain rfl : L = [4, 4, 1] := MP.Se.nm_ext hN (nm_dec rfl) (hL.trans s_b)
  obtain rfl : nb = 3 := pb.pd.len.symm
  clear hN hL
  clear p1 z9
  go_wp2_with fail
  refine al1c fun u7 hb1 x => ?_
  obtain ⟨pa, pb, hb⟩ := mv3 hb1 pa pb hb
  clear hb1
  with_reducible refine (Lpoly_at (n := 3) [-1, 0, 1] x rfl (by omega) (by decide)).mono ?_
  rintro e v7 ⟨Ap1, cp1, rfl, p1, hb1⟩
  clear x
  obtain ⟨pa, pb, hb⟩ := mv3 hb1 pa pb hb
  clear hb1
  go_wp2_with fail
  refine al1c fun u8 hb1 x => ?_
  obtain ⟨pa, pb, p1, hb⟩ := mv4 hb1 pa pb p1 hb
  clear hb1
  with_reducible refine (Lpoly_at (n := 2) [1, 1] x rfl (by omega) (by decide)).mono ?_
  rintro e v8 ⟨Ap2, cp2, rfl, p2, hb1⟩
  clear x
  obtain ⟨pa, pb, p1, hb⟩ := mv4 hb1 pa pb p1 hb
  clear hb1
  go_wp2_with fail
  with_reducible refine (PDivide_any (K := 20) p1.pd p2.pd (by omega) (by omega) (by omega)).mono ?_
  rintro e v9 ⟨hb1, hcase⟩
  obtain ⟨pa, pb, p1, p2, hb⟩ := mv5 hb1 pa pb p1 p2 hb
  clear hb1
  obtain ⟨L, Ac, nc, cc, hN, hL, rfl, pc⟩ := hcase.resolve_left (fun h => s_ne (nm_dec rfl) (by simp) h.1) |>.resolve_left (fun h => h.2.1 ⟨_, MP.Se.co_fn _, s_a.symm⟩) |>.2
  obtain rfl : L = [-1, 1] := quo_is hN (nm_dec rfl) (MP.Se.co_fn _) (s_ne (nm_dec rfl) (by simp)) hL s_a
  obtain rfl : nc = 2 := pc.pd.len.symm
  clear hN hL
  clear p1 p2
  go_wp2_with fail
  refine al1c fun u10 hb1 x => ?_
  obtain ⟨pa, pb, pc, hb⟩ := mv4 hb1 pa pb pc hb
  clear hb1
  with_reducible refine (Lpoly_at (n := 3) [0, 0, 1] x rfl (by omega) (by decide)).mono ?_
  rintro e v10 ⟨Ap1, cp1, rfl, p1, hb1⟩
  clear x
  obtain ⟨pa, pb, pc, hb⟩ := mv4 hb1 pa pb pc hb
  clear hb1
  go_wp2_with fail
  refine al1c fun u11 hb1 x => ?_
  obtain ⟨pa, pb, pc, p1, hb⟩ := mv5 hb1 pa pb pc p1 hb
  clear hb1
  with_reducible refine (Lpoly_at (n := 2) [1, 1] x rfl (by omega) (by decide)).mono ?_
  rintro e v11 ⟨Ap2, cp2, rfl, p2, hb1⟩
  clear x
  obtain ⟨pa, pb, pc, p1, hb⟩ := mv5 hb1 pa pb pc p1 hb
  clear hb1
  go_wp2_with fail
  with_reducible refine (PDivide_any (K := 20) p1.pd p2.pd (by omega) (by omega) (by omega)).mono ?_
  rintro e v12 ⟨hb1, hcase⟩
  obtain ⟨pa, pb, pc, p1, p2, hb⟩ := mv6 hb1 pa pb pc p1 p2 hb
  clear hb1
  obtain rfl := (hcase.resolve_left (fun h => s_ne (nm_dec rfl) (by simp) h.1)).resolve_right (fun h => by obtain ⟨_, L, _, _, _, hN, hL, _⟩ := h; exact s_no ⟨_, MP.Se.co_fn L, hL⟩) |>.2.2
  clear p1 p2
  go_wp2_with fail
  refine al1c fun u13 hb1 x => ?_
  obtain ⟨pa, pb, pc, hb⟩ := mv4 hb1 pa pb pc hb
  clear hb1
  with_reducible refine (Lpoly_at (n := 3) [0, 0, 1] x rfl (by omega) (by decide)).mono ?_
  rintro e v13 ⟨Ap1, cp1, rfl, p1, hb1⟩
  clear x
  obtain ⟨pa, pb, pc, hb⟩ := mv4 hb1 pa pb pc hb
  clear hb1
  go_wp2_with fail
  refine al1c fun u14 hb1 x => ?_
  obtain ⟨pa, pb, pc, p1, hb⟩ := mv5 hb1 pa pb pc p1 hb
  clear hb1
  with_reducible refine (Lpoly_at (n := 2) [1, 2] x rfl (by omega) (by decide)).mono ?_
  rintro e v14 ⟨Ap2, cp2, rfl, p2, hb1⟩
  clear x
  obtain ⟨pa, pb, pc, p1, hb⟩ := mv5 hb1 pa pb pc p1 hb
  clear hb1
  go_wp2_with fail
  with_reducible refine (PRest_any (d := 1) (T := 2) (K := 5) (K2 := 9) p1.pd p2.pd (by omega) rfl rfl (by omega) (by omega) (by omega) (by omega)).mono ?_
  rintro e v15 ⟨hb1, hcase⟩
  obtain ⟨pa, pb, pc, p1, p2, hb⟩ := mv6 hb1 pa pb pc p1 p2 hb
  clear hb1
  obtain ⟨L, At, nt, ct, L2, Ar, nr, cr, hN, hN2, hL, hb2, rfl, pt, pr⟩ := hcase.resolve_left (fun h => s_ne (nm_dec rfl) (by simp) h.1) |>.2
  have hu := MP.Se.div_uniq (n := 1) (show MP.Se.Dg (co [1, 2]) 1 from ⟨by decide, MP.Se.co_bd _⟩) (MP.Se.co_fn L) (MP.Se.co_fn [-1, 2]) hb2 (MP.Se.co_bd [1]) (hL.symm.trans s_t)
  obtain rfl : L = [-1, 2] := MP.Se.nm_ext hN (nm_dec rfl) hu.1
  obtain rfl : L2 = [1] := MP.Se.nm_ext hN2 (nm_dec rfl) hu.2
  obtain rfl : nt = 2 := pt.pd.len.symm
  obtain rfl : nr = 1 := pr.pd.len.symm
  clear hN hN2 hL hb2 hu
  clear p1 p2
  go_wp2_with fail
  refine al1c fun u16 hb1 x => ?_
  obtain ⟨pa, pb, pc, pt, pr, hb⟩ := mv6 hb1 pa pb pc pt pr hb
  clear hb1
  with_reducible refine (Lpoly_at (n := 3) [-2, 0, 2] x rfl (by omega) (by decide)).mono ?_
  rintro e v16 ⟨Ap1, cp1, rfl, p1, hb1⟩
  clear x
  obtain ⟨pa, pb, pc, pt, pr, hb⟩ := mv6 hb1 pa pb pc pt pr hb
  clear hb1
  go_wp2_with fail
  refine al1c fun u17 hb1 x => ?_
  obtain ⟨pa, pb, pc, pt, pr, p1, hb⟩ := mv7 hb1 pa pb pc pt pr p1 hb
  clear hb1
  with_reducible refine (Lpoly_at (n := 2) [4, 4] x rfl (by omega) (by decide)).mono ?_
  rintro e v17 ⟨Ap2, cp2, rfl, p2, hb1⟩
  clear x
  obtain ⟨pa, pb, pc, pt, pr, p1, hb⟩ := mv7 hb1 pa pb pc pt pr p1 hb
  clear hb1
  go_wp2_with fail
  with_reducible refine (PGcd_any (B := 10) (N := 2) (G := [1, 1]) p1.pd p2.pd (by omega) (by omega) (by omega) (by omega) (by omega) (by omega) (by omega) s_g1).mono ?_
  rintro e v18 ⟨L, hN, hL, Ad, nd, cd, rfl, pd, hb1⟩
  obtain ⟨pa, pb, pc, pt, pr, p1, p2, hb⟩ := mv8 hb1 pa pb pc pt pr p1 p2 hb
  clear hb1
  obtain rfl : L = [2, 2] := MP.Se.nm_ext hN (nm_dec rfl) (hL.trans s_gd)
  obtain rfl : nd = 2 := pd.pd.len.symm
  clear hN hL
  clear p1 p2
  go_wp2_with fail
  refine al1c fun u19 hb1 x => ?_
  obtain ⟨pa, pb, pc, pt, pr, pd, hb⟩ := mv7 hb1 pa pb pc pt pr pd hb
  clear hb1
  with_reducible refine (Lpoly_at (n := 4) [0, 0, -3, 3] x rfl (by omega) (by decide)).mono ?_
  rintro e v19 ⟨Ap1, cp1, rfl, p1, hb1⟩
  clear x
  obtain ⟨pa, pb, pc, pt, pr, pd, hb⟩ := mv7 hb1 pa pb pc pt pr pd hb
  clear hb1
  go_wp2_with fail
  with_reducible refine (PSimple_any (B := 10) (N := 3) (K := 200) (P := [0, 0, -1, 1]) (D := [0, -2, 3]) (G := [0, 1]) p1.pd (by omega) (by omega) (by omega) (by omega) (by simp) s_p3 s_d s_g2 (by omega) (by omega)).mono ?_
  rintro e v20 ⟨hb1, As, ns, cs, rfl, hcase⟩
  obtain ⟨pa, pb, pc, pt, pr, pd, p1, hb⟩ := mv8 hb1 pa pb pc pt pr pd p1 hb
  clear hb1
  obtain ⟨h0, L, hN, hL, ps⟩ := (hcase _ rfl).resolve_left (fun h => s_n0 h.1) |>.resolve_left (fun h => h.2.1 ⟨_, MP.Se.co_fn _, s_gs.symm⟩)
  obtain rfl : L = [0, -1, 1] := quo_is hN (nm_dec rfl) (MP.Se.co_fn _).sm h0 hL s_gs
  obtain rfl : ns = 3 := ps.pd.len.symm
  clear hN hL h0 hcase
  clear p1
  go_wp2_with fail
  refine al1c fun u21 hb1 x => ?_
  obtain ⟨pa, pb, pc, pt, pr, pd, ps, hb⟩ := mv8 hb1 pa pb pc pt pr pd ps hb
  clear hb1
  with_reducible refine (Lpoly_at (n := 3) [-1, 0, 1] x rfl (by omega) (by decide)).mono ?_
  rintro e v21 ⟨Aq, cq, rfl, q, hb1⟩
  clear x
  obtain ⟨pa, pb, pc, pt, pr, pd, ps, hb⟩ := mv8 hb1 pa pb pc pt pr pd ps hb
  clear hb1
  go_wp2_with fail
  with_reducible refine (Lsame_any pa.pn q).mono ?_
  rintro e v22 ⟨rfl, hb1⟩
  obtain ⟨pa, pb, pc, pt, pr, pd, ps, q, hb⟩ := mv9 hb1 pa pb pc pt pr pd ps q hb
  clear hb1
  rw [show decide (([-1, 0, 1] : List Int) = [-1, 0, 1]) = true by decide]
  clear q pa
  go_wp2_with fail
  refine al1c fun u23 hb1 x => ?_
  obtain ⟨pb, pc, pt, pr, pd, ps, hb⟩ := mv7 hb1 pb pc pt pr pd ps hb
  clear hb1
  with_reducible refine (Lpoly_at (n := 3) [4, 4, 1] x rfl (by omega) (by decide)).mono ?_
  rintro e v23 ⟨Aq, cq, rfl, q, hb1⟩
  clear x
  obtain ⟨pb, pc, pt, pr, pd, ps, hb⟩ := mv7 hb1 pb pc pt pr pd ps hb
  clear hb1
  go_wp2_with fail
  with_reducible refine (Lsame_any pb.pn q).mono ?_
  rintro e v24 ⟨rfl, hb1⟩
  obtain ⟨pb, pc, pt, pr, pd, ps, q, hb⟩ := mv8 hb1 pb pc pt pr pd ps q hb
  clear hb1
  rw [show decide (([4, 4, 1] : List Int) = [4, 4, 1]) = true by decide]
  clear q pb
  go_wp2_with fail
  refine al1c fun u25 hb1 x => ?_
  obtain ⟨pc, pt, pr, pd, ps, hb⟩ := mv6 hb1 pc pt pr pd ps hb
  clear hb1
  with_reducible refine (Lpoly_at (n := 2) [-1, 1] x rfl (by omega) (by decide)).mono ?_
  rintro e v25 ⟨Aq, cq, rfl, q, hb1⟩
  clear x
  obtain ⟨pc, pt, pr, pd, ps, hb⟩ := mv6 hb1 pc pt pr pd ps hb
  clear hb1
  go_wp2_with fail
  with_reducible refine (Lsame_any pc.pn q).mono ?_
  rintro e v26 ⟨rfl, hb1⟩
  obtain ⟨pc, pt, pr, pd, ps, q, hb⟩ := mv7 hb1 pc pt pr pd ps q hb
  clear hb1
  rw [show decide (([-1, 1] : List Int) = [-1, 1]) = true by decide]
  clear q pc
  go_wp2_with fail
  refine al1c fun u27 hb1 x => ?_
  obtain ⟨pt, pr, pd, ps, hb⟩ := mv5 hb1 pt pr pd ps hb
  clear hb1
  with_reducible refine (Lpoly_at (n := 2) [-1, 2] x rfl (by omega) (by decide)).mono ?_
  rintro e v27 ⟨Aq, cq, rfl, q, hb1⟩
  clear x
  obtain ⟨pt, pr, pd, ps, hb⟩ := mv5 hb1 pt pr pd ps hb
  clear hb1
  go_wp2_with fail
  with_reducible refine (Lsame_any pt.pn q).mono ?_
  rintro e v28 ⟨rfl, hb1⟩
  obtain ⟨pt, pr, pd, ps, q, hb⟩ := mv6 hb1 pt pr pd ps q hb
  clear hb1
  rw [show decide (([-1, 2] : List Int) = [-1, 2]) = true by decide]
  clear q pt
  go_wp2_with fail
  refine al1c fun u29 hb1 x => ?_
  obtain ⟨pr, pd, ps, hb⟩ := mv4 hb1 pr pd ps hb
  clear hb1
  with_reducible refine (Lpoly_at (n := 1) [1] x rfl (by omega) (by decide)).mono ?_
  rintro e v29 ⟨Aq, cq, rfl, q, hb1⟩
  clear x
  obtain ⟨pr, pd, ps, hb⟩ := mv4 hb1 pr pd ps hb
  clear hb1
  go_wp2_with fail
  with_reducible refine (Lsame_any pr.pn q).mono ?_
  rintro e v30 ⟨rfl, hb1⟩
  obtain ⟨pr, pd, ps, q, hb⟩ := mv5 hb1 pr pd ps q hb
  clear hb1
  rw [show decide (([1] : List Int) = [1]) = true by decide]
  clear q pr
  go_wp2_with fail
  refine al1c fun u31 hb1 x => ?_
  obtain ⟨pd, ps, hb⟩ := mv3 hb1 pd ps hb
  clear hb1
  with_reducible refine (Lpoly_at (n := 2) [2, 2] x rfl (by omega) (by decide)).mono ?_
  rintro e v31 ⟨Aq, cq, rfl, q, hb1⟩
  clear x
  obtain ⟨pd, ps, hb⟩ := mv3 hb1 pd ps hb
  clear hb1
  go_wp2_with fail
  with_reducible refine (Lsame_any pd.pn q).mono ?_
  rintro e v32 ⟨rfl, hb1⟩
  obtain ⟨pd, ps, q, hb⟩ := mv4 hb1 pd ps q hb
  clear hb1
  rw [show decide (([2, 2] : List Int) = [2, 2]) = true by decide]
  clear q pd
  go_wp2_with fail
  refine al1c fun u33 hb1 x => ?_
  obtain ⟨ps, hb⟩ := mv2 hb1 ps hb
  clear hb1
  with_reducible refine (Lpoly_at (n := 3) [0, -1, 1] x rfl (by omega) (by decide)).mono ?_
  rintro e v33 ⟨Aq, cq, rfl, q, hb1⟩
  clear x
  obtain ⟨ps, hb⟩ := mv2 hb1 ps hb
  clear hb1
  go_wp2_with fail
  with_reducible refine (Lsame_any ps.pn q).mono ?_
  rintro e v34 ⟨rfl, hb1⟩
  obtain ⟨ps, q, hb⟩ := mv3 hb1 ps q hb
  clear hb1
  rw [show decide (([0, -1, 1] : List Int) = [0, -1, 1]) = true by decide]
  clear q ps
  go_wp2
  go_ret
  exact ⟨rfl, hb⟩
end Go.Proofs.Ytnidohbbimfpjaa
