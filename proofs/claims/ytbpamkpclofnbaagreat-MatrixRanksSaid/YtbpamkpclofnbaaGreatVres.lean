/-
  polyz: Rest.
-/
import Derived.Test.YtbpamkpclofnbaaGreatVdiv
namespace Go.Proofs.YtbpamkpclofnbaaGreat
open Go.RowKit
open MP.Se (nf co)
set_option linter.unusedVariables false
set_option maxRecDepth 100000

/-- What Rest hands back: p by q; d is q's degree, T the number of steps. -/
def RsP (w : World) (p q : MP.Se) (d T K K2 : Nat) (e : Ending) (w' : World) : Prop := Below w.heap.size w w' ∧
  ((q = MP.Se.c 0 ∧ e = .returned (.tuple #[.slice none 0 0, .slice none 0 0, .int .i64 2])) ∨
    (q ≠ MP.Se.c 0 ∧ ∃ L A n c L2 A2 n2 c2, MP.Se.Nm L ∧ MP.Se.Nm L2 ∧ MP.Se.sm (q d ^ T) p = q * co L + co L2 ∧ MP.Se.Bd (co L2) d ∧ e = .returned (.tuple #[.slice A n c, .slice A2 n2 c2, .int .i64 0]) ∧ Po w' w.heap.size A n c L K2 ∧ Po w' w.heap.size A2 n2 c2 L2 K))
/-- What the loop of Rest keeps. -/
def RtR (w : World) (P Q : List Int) (C : Int) (J J2 K g c3 m gt T d gp : Nat) (A4 : Option Addr) (m2 c4 i : Nat) (wr : World) : Prop :=
  ∃ (R t : List Int) (S u : MP.Se), Pt wr g c3 m R K ∧ Pw wr gt t K ∧ t.length = T ∧ MP.Se.ReI P Q R t d (T - i) i S u ∧ (∀ j, Si (S j) (J + i * (J2 + 1))) ∧ (∃ A n c, Bx wr gp (ngB (C ^ i)) A n c ∧ Zn wr A n c (C ^ i) (i * J2 + 1)) ∧ Pe wr w.heap.size A4 m2 c4 Q J2 ∧ Below w.heap.size w wr
/-- What the inner loop of Rest keeps: the places below k are as in R, those of the window so far are the next rest's. -/
def RjR (w : World) (R Q t : List Int) (S : MP.Se) (C f : Int) (J2 K g c3 m gt k d gp : Nat) (Ap : Option Addr) (np cp : Nat) (KP : Nat) (W : Int) (A4 : Option Addr) (m2 c4 j : Nat) (wr : World) : Prop :=
  ∃ Rj : List Int, Pt wr g c3 m Rj K ∧ (∀ a, a < k + d + 1 → (co Rj) a = if a < k then (co R) a else if a < k + j then C * S a - f * (co Q) (a - k) else S a) ∧ Pw wr gt t K ∧ Bx wr gp (ngB W) Ap np cp ∧ Zn wr Ap np cp W KP ∧ Pe wr w.heap.size A4 m2 c4 Q J2 ∧ Below w.heap.size w wr
/-- One integer of the window has been laid anew. -/
def RcR (R : List Int) (k : Nat) (X : Int) (K g c3 m : Nat) (V wx : World) : Prop := Fz (fun b => b = g) V wx ∧ Pt wx g c3 m (R.set k X) K
theorem RcR.put {R : List Int} {k : Nat} {X : Int} {K g c3 m n c : Nat} {A : Option Addr} {V v : World} (hf : Fz (fun b => b = g) V v) (p : Pt v g c3 m R K) (hk : k < R.length) (z : Zn v A n c X K) : RcR R k X K g c3 m V ((v.setCell ⟨g, k * 2, none⟩ (.bool (ngB X))).setCell ⟨g, k * 2 + 1, none⟩ (.slice A n c)) :=
  p.st (F := RcR R k X K g c3 m V) hk z fun v' s p => ⟨hf.sto s (.inr rfl), p⟩
theorem rj_step {R Rj Q : List Int} {S : MP.Se} {C f V U Y : Int} {k d j : Nat} (h : ∀ a, a < k + d + 1 → (co Rj) a = if a < k then (co R) a else if a < k + j then C * S a - f * (co Q) (a - k) else S a) (hj : j < d) (hk : k + j < Rj.length) (hV : S (k + j) = V) (hU : (co Q) j = U) :
    ∀ a, a < k + d + 1 → (co (Rj.set (k + j) (V * C - f * U))) a = if a < k then (co R) a else if a < k + (j + 1) then C * S a - f * (co Q) (a - k) else S a := fun a ha => by
  rw [MP.Se.co_set_at hk]
  by_cases e : a = k + j
  · subst e
    rw [if_pos rfl, if_neg (by omega), if_pos (by omega), hV, Nat.add_sub_cancel_left, hU, Int.mul_comm]
  · rw [if_neg e, h a ha]
    by_cases h1 : a < k
    · rw [if_pos h1, if_pos h1]
    · rw [if_neg h1, if_neg h1]
      by_cases h2 : a < k + j
      · rw [if_pos h2, if_pos (by omega)]
      · rw [if_neg h2, if_neg (by omega)]
set_option maxHeartbeats 16000000 in
theorem PRest_any {A A2 : Option Addr} {n c n2 c2 J J2 K K2 d T : Nat} {l l2 : List Int} {w : World} (h : Pd w w.heap.size A n c l J) (h2 : Pd w w.heap.size A2 n2 c2 l2 J2) (hn : n + n2 ≤ 100000) (hd0 : (nf l2).length - 1 = d) (hT0 : (nf l).length - d = T) (hK : J + T * (J2 + 1) ≤ K) (hK2 : K + n * J2 + 1 ≤ K2) (hK3 : K2 ≤ 900000) (hJ2 : J2 ≤ 900000) :
    Calls Tryz.prog 61 #[.slice A n c, .slice A2 n2 c2] w (RsP w (co l) (co l2) d T K K2) := by
  have hl := h.len
  have hl2 := h2.len
  have hle := MP.Se.nf_len l
  have hle2 := MP.Se.nf_len l2
  replace h := h.pe
  replace h2 := h2.pe
  have hNm := MP.Se.nm_nf l
  have hNm2 := MP.Se.nm_nf l2
  rw [← MP.Se.co_nf l, ← MP.Se.co_nf l2]
  obtain ⟨P, hP⟩ : ∃ N, nf l = N := ⟨_, rfl⟩
  obtain ⟨Q, hQ⟩ : ∃ N, nf l2 = N := ⟨_, rfl⟩
  rw [hP, hQ]
  rw [hP] at hNm hle hT0; rw [hQ] at hNm2 hle2 hd0
  have HP := Lib.hid hP; have HQ := Lib.hid hQ; have HN1 := Lib.hid hNm; have HN2 := Lib.hid hNm2
  have HK := Lib.hid hK; have HK2 := Lib.hid hK2
  have hJ1 : J ≤ 900000 := by omega
  have hPb : P.length + Q.length ≤ 100000 := by omega
  have hKb : K ≤ 900000 := by omega
  have hPn : P.length ≤ n := by omega
  clear hP hQ hNm hNm2 hK hK2
  go_enter Tryz.func61, Tryz.ntmps61
  go_wp2_with fail
  with_reducible refine (PNorm_any h.pd (by omega)).mono ?_
  rintro e v1 ⟨A3, m, c3, rfl, p3, hb⟩
  rw [HP.out] at p3
  obtain ⟨h2, p3⟩ := mv2 (Below.refl v1.heap.size v1) (h2.keep hb) p3
  clear h
  go_wp2_with fail
  with_reducible refine (Ptrim_any h2.pd (by omega)).mono ?_
  rintro e v2 ⟨A4, m2, c4, rfl, hm, ht, hb1⟩
  replace h2 := h2.keep hb1; replace p3 := p3.keep hb1
  have h4 : Pe v2 w.heap.size A4 m2 c4 Q J2 := ⟨h2.1, by have := h2.2.trim hm ht; rwa [HQ.out] at this⟩
  replace hb := bthen hb hb1
  clear h2 hm ht hb1
  have hl3 := p3.pd.len; have hl4 := h4.len
  rcases (show m2 = 0 ∨ 0 < m2 by omega) with h02 | h02
  · obtain rfl : Q = [] := List.eq_nil_of_length_eq_zero (by omega)
    subst h02
    clear p3 h4 hl3 hl4
    go_wp2
    go_ret3
    exact ⟨hb, .inl ⟨MP.Se.co_nil, rfl⟩⟩
  have hm20 : ((m2 : Int) == 0) = false := by simp; omega
  have hd : d + 1 = m2 := by omega
  have hQd : Hid (Q.length = d + 1) := Lib.hid (by omega)
  have hq0 : Hid (co Q ≠ MP.Se.c 0) := Lib.hid (fun e => nm_last HN2.out hQd.out (by rw [e]; cases d <;> rfl))
  have e1 : IntKind.i64.wrap ((m2 : Int) - 1) = (d : Int) := by rw [i64_keep (by omega) (by omega)]; omega
  have hmb : m ≤ 100000 := by omega
  have hm2b : m + m2 ≤ 100000 := by omega
  have hdm2 : d < m2 := by omega
  rcases (show m ≤ d ∨ d < m by omega) with hmd | hmd
  · obtain ⟨x, hx⟩ : ∃ x : Int, (m : Int) - d = x := ⟨_, rfl⟩
    have e2 : IntKind.i64.wrap ((m : Int) - d) = x := by rw [i64_keep (by omega) (by omega)]; exact hx
    have hx0 : ¬ (0 : Int) < x := by omega
    obtain rfl : T = 0 := by omega
    have hlast := Lib.hid ((MP.Se.ReI.first P Q [] d 0 (by omega) MP.Se.co_nil).last)
    have hPd : Hid (P.take d = P) := Lib.hid (List.take_of_length_le (by omega))
    replace p3 := p3.kto (K := K) (by have := HK.out; omega)
    have HKT : Hid (K + 0 * J2 + 1 ≤ K2) := Lib.hid (by have := HK2.out; omega)
    clear hx hl3 hl4
    go_upto_region 6 with (at_make; refine wp_makeP rfl _ _ rfl 0 K _ _ rfl rfl rfl rfl (by omega) ?_; intro v3 p_t hb1)
    obtain ⟨hpo, h4⟩ := mv2 hb1 p3 h4
    have hgt := hb.size
    replace hb := bthen hb hb1
    have hpt : Po v3 w.heap.size (some ⟨v2.heap.size, 0, none⟩) 0 0 [] K := p_t.po hgt
    clear hb1 p3 p_t
    go_wp2_with fail
    with_reducible refine (ZOf_any 1 (by omega) (by omega)).mono ?_
    rintro e v4 ⟨A5, n5, c5, rfl, z5, hb1⟩
    obtain ⟨hpo, hpt, h4, hb⟩ := mv4 hb1 hpo hpt h4 hb
    clear hb1
    go_upto_region 7 with fail
    refine al1 fun v5 hb1 x_p => ?_
    obtain ⟨hpo, hpt, h4, hb⟩ := mv4 hb1 hpo hpt h4 hb
    clear hb1 z5 x_p
    go_wp2_with fail
    go_loopw [34] (fun kv wr => kv = .int .i64 0 ∧ wr = v5) (fun _ _ => 0)
    case atStart => exact ⟨rfl, rfl⟩
    case round =>
      obtain ⟨rfl, rfl⟩ := hrel
      have hmc := hpo.pd.cap
      have hmcI : (m : Int) ≤ (c3 : Int) := by omega
      have hm0I : (0 : Int) ≤ (m : Int) := by omega
      have hres0 : MP.Se.sm ((co Q) d ^ 0) (co P) = co Q * MP.Se.pu (co []) (MP.Se.xc ((co Q) d)) + co P ∧ MP.Se.Bd (co P) d := by have := hlast.out; rwa [hPd.out] at this
      have HR0 := Lib.hid hres0; clear hres0
      rcases A3 with _ | ad
      · rcases (show m = d ∨ m < d by omega) with hmd3 | hmd3
        · have hmdI : ¬ ((m : Int) < (d : Int)) := by omega
          obtain ⟨rfl, rfl, hP0⟩ : m = 0 ∧ c3 = 0 ∧ P = [] := by
            rcases hpo with ⟨_, h1, h2, h3⟩ | ⟨_, _, e, _⟩
            · exact ⟨h1, h2, h3⟩
            · cases e
          have hd0z : d = 0 := by omega
          subst hd0z
          clear hd
          obtain ⟨d4, o4, b6, A6, n6, c6, rfl, hd4, x_f, z6⟩ := h4.ec hdm2; simp only [Nat.zero_mul, Nat.add_zero] at x_f
          obtain ⟨Y, hY⟩ : ∃ Y, Q[0]'(by rw [hQd.out]; omega) = Y := ⟨_, rfl⟩
          rw [hY] at z6
          have hYc : Hid ((co Q) 0 = Y) := Lib.hid (by rw [MP.Se.co_at (by rw [hQd.out]; omega)]; exact hY)
          have hpt2 := hpt.pd.len
          clear hY h4
          have q_f := x_f.al
          go_upto_region 21 with fail
          go_region_held3 (fun w' => w'.cell? ⟨d4, o4, none⟩ = some (.bool b6) ∧ w'.cell? ⟨d4, o4 + 1, none⟩ = some (.slice A6 n6 c6))
            (first | (with_reducible exact ⟨x_f.c0, x_f.c1⟩) | go_keep)
            (first | (go_at_call 117; (with_reducible refine (PStretch_any (K := K2) hpt.pd.drw z6.drw (by have := HKT.out; omega) hK3).mono ?_); rintro e v1 ⟨L7, hN7, hL7, A7, m7, c7, rfl, p7, hb1⟩; replace hb1 := undrew hb1; replace p7 := p7.more hb.size; obtain ⟨x_f, hpo, hpt, z6, hb⟩ := mv5 hb1 x_f hpo hpt z6 hb; clear hb1; replace q_f := x_f.al) | (go_at_call 112; (with_reducible refine (Ptrim_any hpo.pd (by omega)).mono ?_); rintro e v2 ⟨A9, m9, c9, rfl, hm9, ht9, hb1⟩; obtain ⟨x_f, hpo, hpt, z6, p7, hb⟩ := mv6 hb1 x_f hpo hpt z6 p7 hb; clear hb1; replace q_f := x_f.al; have HM9 := Lib.hid hm9; clear hm9))
          all_goals
            have p9 := hpo.trim HM9.out ht9
            have hres : MP.Se.sm ((co Q) 0 ^ 0) (co P) = co Q * co L7 + co (nf P) ∧ MP.Se.Bd (co (nf P)) 0 := by
              rw [MP.Se.co_nf, hL7, ← hYc.out]; exact HR0.out
            have HR := Lib.hid hres; have HN7 := Lib.hid hN7
            clear hres hL7 HM9 ht9 hpo hpt hN7 x_f q_f z6
            go_wp2
            go_ret3
            exact ⟨hb, .inr ⟨hq0.out, L7, A7, m7, c7, _, A9, m9, c9, HN7.out, MP.Se.nm_nf _, HR.out.1, HR.out.2, rfl, p7, p9⟩⟩
        · have hmdI : (m : Int) < (d : Int) := by omega
          obtain ⟨rfl, rfl, hP0⟩ : m = 0 ∧ c3 = 0 ∧ P = [] := by
            rcases hpo with ⟨_, h1, h2, h3⟩ | ⟨_, _, e, _⟩
            · exact ⟨h1, h2, h3⟩
            · cases e
          obtain ⟨d4, o4, b6, A6, n6, c6, rfl, hd4, x_f, z6⟩ := h4.ec hdm2
          obtain ⟨Y, hY⟩ : ∃ Y, Q[d]'(by rw [hQd.out]; omega) = Y := ⟨_, rfl⟩
          rw [hY] at z6
          have hYc : Hid ((co Q) d = Y) := Lib.hid (by rw [MP.Se.co_at (by rw [hQd.out]; omega)]; exact hY)
          have hpt2 := hpt.pd.len
          clear hY h4
          have q_f := x_f.al
          go_upto_region 21 with fail
          go_region_held3 (fun w' => w'.cell? ⟨d4, o4 + d * 2, none⟩ = some (.bool b6) ∧ w'.cell? ⟨d4, o4 + d * 2 + 1, none⟩ = some (.slice A6 n6 c6))
            (first | (with_reducible exact ⟨x_f.c0, x_f.c1⟩) | go_keep)
            (first | (go_at_call 117; (with_reducible refine (PStretch_any (K := K2) hpt.pd.drw z6.drw (by have := HKT.out; omega) hK3).mono ?_); rintro e v1 ⟨L7, hN7, hL7, A7, m7, c7, rfl, p7, hb1⟩; replace hb1 := undrew hb1; replace p7 := p7.more hb.size; obtain ⟨x_f, hpo, hpt, z6, hb⟩ := mv5 hb1 x_f hpo hpt z6 hb; clear hb1; replace q_f := x_f.al) | (go_at_call 112; (with_reducible refine (Ptrim_any hpo.pd (by omega)).mono ?_); rintro e v2 ⟨A9, m9, c9, rfl, hm9, ht9, hb1⟩; obtain ⟨x_f, hpo, hpt, z6, p7, hb⟩ := mv6 hb1 x_f hpo hpt z6 p7 hb; clear hb1; replace q_f := x_f.al; have HM9 := Lib.hid hm9; clear hm9))
          all_goals
            have p9 := hpo.trim HM9.out ht9
            have hres : MP.Se.sm ((co Q) d ^ 0) (co P) = co Q * co L7 + co (nf P) ∧ MP.Se.Bd (co (nf P)) d := by
              rw [MP.Se.co_nf, hL7, ← hYc.out]; exact HR0.out
            have HR := Lib.hid hres; have HN7 := Lib.hid hN7
            clear hres hL7 HM9 ht9 hpo hpt hN7 x_f q_f z6
            go_wp2
            go_ret3
            exact ⟨hb, .inr ⟨hq0.out, L7, A7, m7, c7, _, A9, m9, c9, HN7.out, MP.Se.nm_nf _, HR.out.1, HR.out.2, rfl, p7, p9⟩⟩
      · rcases (show m = d ∨ m < d by omega) with hmd3 | hmd3
        · have hmdI : ¬ ((m : Int) < (d : Int)) := by omega
          have hpo2 := hpo
          rw [hmd3] at hpo2
          have hdcI : (d : Int) ≤ (c3 : Int) := by omega
          have hd0I : (0 : Int) ≤ (d : Int) := by omega
          obtain ⟨d4, o4, b6, A6, n6, c6, rfl, hd4, x_f, z6⟩ := h4.ec hdm2
          obtain ⟨Y, hY⟩ : ∃ Y, Q[d]'(by rw [hQd.out]; omega) = Y := ⟨_, rfl⟩
          rw [hY] at z6
          have hYc : Hid ((co Q) d = Y) := Lib.hid (by rw [MP.Se.co_at (by rw [hQd.out]; omega)]; exact hY)
          have hpt2 := hpt.pd.len
          clear hY h4
          have q_f := x_f.al
          go_upto_region 21 with fail
          go_region_held3 (fun w' => w'.cell? ⟨d4, o4 + d * 2, none⟩ = some (.bool b6) ∧ w'.cell? ⟨d4, o4 + d * 2 + 1, none⟩ = some (.slice A6 n6 c6))
            (first | (with_reducible exact ⟨x_f.c0, x_f.c1⟩) | go_keep)
            (first | (go_at_call 117; (with_reducible refine (PStretch_any (K := K2) hpt.pd.drw z6.drw (by have := HKT.out; omega) hK3).mono ?_); rintro e v1 ⟨L7, hN7, hL7, A7, m7, c7, rfl, p7, hb1⟩; replace hb1 := undrew hb1; replace p7 := p7.more hb.size; obtain ⟨x_f, hpo2, hpt, z6, hb⟩ := mv5 hb1 x_f hpo2 hpt z6 hb; clear hb1; replace q_f := x_f.al) | (go_at_call 112; (with_reducible refine (Ptrim_any hpo2.pd (by omega)).mono ?_); rintro e v2 ⟨A9, m9, c9, rfl, hm9, ht9, hb1⟩; obtain ⟨x_f, hpo2, hpt, z6, p7, hb⟩ := mv6 hb1 x_f hpo2 hpt z6 p7 hb; clear hb1; replace q_f := x_f.al; have HM9 := Lib.hid hm9; clear hm9))
          all_goals
            have p9 := hpo2.trim HM9.out ht9
            have hres : MP.Se.sm ((co Q) d ^ 0) (co P) = co Q * co L7 + co (nf P) ∧ MP.Se.Bd (co (nf P)) d := by
              rw [MP.Se.co_nf, hL7, ← hYc.out]; exact HR0.out
            have HR := Lib.hid hres; have HN7 := Lib.hid hN7
            clear hres hL7 HM9 ht9 hpo2 hpt hN7 x_f q_f z6
            go_wp2
            go_ret3
            exact ⟨hb, .inr ⟨hq0.out, L7, A7, m7, c7, _, A9, m9, c9, HN7.out, MP.Se.nm_nf _, HR.out.1, HR.out.2, rfl, p7, p9⟩⟩
        · have hmdI : (m : Int) < (d : Int) := by omega
          obtain ⟨d4, o4, b6, A6, n6, c6, rfl, hd4, x_f, z6⟩ := h4.ec hdm2
          obtain ⟨Y, hY⟩ : ∃ Y, Q[d]'(by rw [hQd.out]; omega) = Y := ⟨_, rfl⟩
          rw [hY] at z6
          have hYc : Hid ((co Q) d = Y) := Lib.hid (by rw [MP.Se.co_at (by rw [hQd.out]; omega)]; exact hY)
          have hpt2 := hpt.pd.len
          clear hY h4
          have q_f := x_f.al
          go_upto_region 21 with fail
          go_region_held3 (fun w' => w'.cell? ⟨d4, o4 + d * 2, none⟩ = some (.bool b6) ∧ w'.cell? ⟨d4, o4 + d * 2 + 1, none⟩ = some (.slice A6 n6 c6))
            (first | (with_reducible exact ⟨x_f.c0, x_f.c1⟩) | go_keep)
            (first | (go_at_call 117; (with_reducible refine (PStretch_any (K := K2) hpt.pd.drw z6.drw (by have := HKT.out; omega) hK3).mono ?_); rintro e v1 ⟨L7, hN7, hL7, A7, m7, c7, rfl, p7, hb1⟩; replace hb1 := undrew hb1; replace p7 := p7.more hb.size; obtain ⟨x_f, hpo, hpt, z6, hb⟩ := mv5 hb1 x_f hpo hpt z6 hb; clear hb1; replace q_f := x_f.al) | (go_at_call 112; (with_reducible refine (Ptrim_any hpo.pd (by omega)).mono ?_); rintro e v2 ⟨A9, m9, c9, rfl, hm9, ht9, hb1⟩; obtain ⟨x_f, hpo, hpt, z6, p7, hb⟩ := mv6 hb1 x_f hpo hpt z6 p7 hb; clear hb1; replace q_f := x_f.al; have HM9 := Lib.hid hm9; clear hm9))
          all_goals
            have p9 := hpo.trim HM9.out ht9
            have hres : MP.Se.sm ((co Q) d ^ 0) (co P) = co Q * co L7 + co (nf P) ∧ MP.Se.Bd (co (nf P)) d := by
              rw [MP.Se.co_nf, hL7, ← hYc.out]; exact HR0.out
            have HR := Lib.hid hres; have HN7 := Lib.hid hN7
            clear hres hL7 HM9 ht9 hpo hpt hN7 x_f q_f z6
            go_wp2
            go_ret3
            exact ⟨hb, .inr ⟨hq0.out, L7, A7, m7, c7, _, A9, m9, c9, HN7.out, MP.Se.nm_nf _, HR.out.1, HR.out.2, rfl, p7, p9⟩⟩
  · have e2 : IntKind.i64.wrap ((m : Int) - d) = (T : Int) := by rw [i64_keep (by omega) (by omega)]; omega
    have hTb : T ≤ 100000 := by omega
    have hT0I : (0 : Int) < (T : Int) := by omega
    have hTm : m = T + d := by omega
    have HL3 := Lib.hid hl3; have HL4 := Lib.hid hl4; have HTm := Lib.hid hTm
    rcases p3 with ⟨_, h0, _⟩ | ⟨g, L3, rfl, hgw, hc3, hmc, p3, hLP⟩
    · omega
    have hPJ : Hid (∀ j, Si ((co P) j) J) := Lib.hid (fun j => by
      by_cases hj : j < P.length
      · have hj2 : j < L3.length := by have := hmc; omega
        obtain ⟨_, _, _, _, z⟩ := p3.ec hj2
        rw [MP.Se.co_at hj]
        have : P[j] = L3[j] := by simp only [hLP, List.getElem_take]
        rw [this]; exact z.si
      · rw [MP.Se.co_out (by omega)]; exact Si.zero _)
    have hQJ : Hid (∀ j, Si ((co Q) j) J2) := Lib.hid (fun j => by
      by_cases hj : j < Q.length
      · obtain ⟨_, _, _, _, _, _, _, _, _, z⟩ := h4.ec (k := j) (by have := HL4.out; omega)
        rw [MP.Se.co_at hj]; exact z.si
      · rw [MP.Se.co_out (by omega)]; exact Si.zero _)
    obtain ⟨C, hC⟩ : ∃ C, (co Q) d = C := ⟨_, rfl⟩
    have HC := Lib.hid hC
    have p_g : Pt v2 g c3 m P K := ⟨L3, p3.kto (by have := HK.out; omega), hc3.symm, hmc, hLP⟩
    have hT1 : Hid ((T : Nat) ≤ n) := Lib.hid (by omega)
    clear p3 hLP hc3 hl3 hl4 hT0 hTm hC
    go_upto_region 6 with (at_make; refine wp_makeP rfl _ _ rfl T K _ _ rfl rfl rfl rfl hTb ?_; intro v3 p_t hb1)
    obtain ⟨gt, hgt2⟩ : ∃ g, v2.heap.size = g := ⟨_, rfl⟩
    rw [hgt2] at p_t
    simp only [hgt2]
    have hgt := hb.size
    have hgg := p_g.lt
    rw [hgt2] at hgt hgg
    obtain ⟨h4, p_g, hb⟩ := mv3 hb1 h4 p_g hb
    clear hb1 hgt2
    go_wp2_with fail
    with_reducible refine (ZOf_any 1 (by omega) (by omega)).mono ?_
    rintro e v4 ⟨A5, n5, c5, rfl, z5, hb1⟩
    obtain ⟨h4, p_g, p_t, hb⟩ := mv4 hb1 h4 p_g p_t hb
    clear hb1
    go_upto_region 7 with fail
    have htp := p_t.lt
    refine al1 fun v5 hb1 x_p => ?_
    replace x_p := Bx.of x_p
    have hgp0 := hb.size
    obtain ⟨h4, p_g, p_t, z5, hb⟩ := mv5 hb1 h4 p_g p_t z5 hb
    clear hb1
    obtain ⟨gp, hgp⟩ : ∃ g, v4.heap.size = g := ⟨_, rfl⟩
    rw [hgp] at x_p htp hgp0
    simp only [hgp]
    clear hgp
    have hr0 : RtR w P Q C J J2 K g c3 m gt T d gp A4 m2 c4 0 v5 := ⟨P, _, co P, MP.Se.c 0, p_g, p_t, by simp, MP.Se.ReI.first P Q _ d (T - 0) (by have := HTm.out; have := HL3.out; omega) (MP.Se.co_rep _), fun j => (hPJ.out j).mono (by omega), ⟨A5, n5, c5, by rw [Int.pow_zero]; exact x_p, by rw [Int.pow_zero, Nat.zero_mul]; exact z5⟩, h4, hb⟩
    clear p_t h4 p_g hb z5 x_p
    go_wp2_with fail
    go_loopw [34] (fun kv wr => ∃ i : Nat, i ≤ T ∧ kv = .int .i64 (i : Int) ∧ RtR w P Q C J J2 K g c3 m gt T d gp A4 m2 c4 i wr) (fun kv _ => T - (intOf kv).toNat)
    case atStart => exact ⟨0, by omega, rfl, hr0⟩
    case round =>
      clear hr0
      obtain ⟨i, hi, rfl, R, t, S, u, p_g, p_t, htl, hI, hS, ⟨Ap, np, cp, x_p, z_p⟩, h4, hb⟩ := hrel
      have hRm := p_g.len
      rcases (show T = i ∨ i < T by omega) with hiT | hiT
      · subst hiT
        rw [Nat.sub_self] at hI
        have HR0 := Lib.hid hI.last
        have hmc3 : d ≤ m := by omega
        have hdc : d ≤ c3 := by obtain ⟨_, _, _, h1, _⟩ := p_g; omega
        have hpo := (p_g.take hmc3).po (B := w.heap.size) hgw
        have hpt := p_t.po (B := w.heap.size) hgt
        rw [htl] at hpt
        have HKT : Hid (K + T * J2 + 1 ≤ K2) := Lib.hid (by have h1 : T * J2 ≤ n * J2 := Nat.mul_le_mul_right _ hT1.out; have := HK2.out; omega)
        have hmdI : ¬ ((m : Int) < (d : Int)) := by omega
        have hdcI : (d : Int) ≤ (c3 : Int) := by omega
        have hd0I : (0 : Int) ≤ (d : Int) := by omega
        have hmcc : m ≤ c3 := by obtain ⟨_, _, _, h1, _⟩ := p_g; exact h1
        have hmcI : (m : Int) ≤ (c3 : Int) := by omega
        have hc30 : ¬ c3 = 0 := by omega
        have hmdN : ¬ m < d := by omega
        have hm0I : (0 : Int) ≤ (m : Int) := by omega
        clear hI hS x_p z_p p_g p_t htl hRm hmc3
        obtain ⟨d4, o4, b6, A6, n6, c6, rfl, hd4, x_f, z6⟩ := h4.ec hdm2
        obtain ⟨Y, hY⟩ : ∃ Y, Q[d]'(by rw [hQd.out]; omega) = Y := ⟨_, rfl⟩
        rw [hY] at z6
        have hYc : Hid ((co Q) d = Y) := Lib.hid (by rw [MP.Se.co_at (by rw [hQd.out]; omega)]; exact hY)
        have hpt2 := hpt.pd.len
        clear hY h4
        have q_f := x_f.al
        go_upto_region 21 with fail
        go_region_held3 (fun w' => w'.cell? ⟨d4, o4 + d * 2, none⟩ = some (.bool b6) ∧ w'.cell? ⟨d4, o4 + d * 2 + 1, none⟩ = some (.slice A6 n6 c6))
          (first | (with_reducible exact ⟨x_f.c0, x_f.c1⟩) | go_keep)
          (first | (go_at_call 117; (with_reducible refine (PStretch_any (K := K2) hpt.pd.drw z6.drw (by have := HKT.out; omega) hK3).mono ?_); rintro e v1 ⟨L7, hN7, hL7, A7, m7, c7, rfl, p7, hb1⟩; replace hb1 := undrew hb1; replace p7 := p7.more hb.size; obtain ⟨x_f, hpo, hpt, z6, hb⟩ := mv5 hb1 x_f hpo hpt z6 hb; clear hb1; replace q_f := x_f.al) | (go_at_call 112; (with_reducible refine (Ptrim_any hpo.pd (by omega)).mono ?_); rintro e v2 ⟨A9, m9, c9, rfl, hm9, ht9, hb1⟩; obtain ⟨x_f, hpo, hpt, z6, p7, hb⟩ := mv6 hb1 x_f hpo hpt z6 p7 hb; clear hb1; replace q_f := x_f.al; have HM9 := Lib.hid hm9; clear hm9))
        all_goals
          have p9 := hpo.trim HM9.out ht9
          have hres : MP.Se.sm ((co Q) d ^ T) (co P) = co Q * co L7 + co (nf (R.take d)) ∧ MP.Se.Bd (co (nf (R.take d))) d := by
            rw [MP.Se.co_nf, hL7, ← hYc.out]; exact HR0.out
          have HR := Lib.hid hres; have HN7 := Lib.hid hN7
          clear hres hL7 HM9 ht9 hpo hpt hN7 x_f q_f z6
          go_wp2
          go_ret3
          exact ⟨hb, .inr ⟨hq0.out, L7, A7, m7, c7, _, A9, m9, c9, HN7.out, MP.Se.nm_nf _, HR.out.1, HR.out.2, rfl, p7, p9⟩⟩
      · obtain ⟨k, hk⟩ : ∃ k, T - i = k + 1 := ⟨T - i - 1, by omega⟩
        rw [hk] at hI
        have hkd : k + d < R.length := by have := HTm.out; omega
        have hkR : k < R.length := by omega
        have hkt : k < t.length := by omega
        obtain ⟨A6, n6, c6, x_e, z6⟩ := p_g.ec hkR
        obtain ⟨X, hX⟩ : ∃ X, R[k] = X := ⟨_, rfl⟩
        rw [hX] at x_e z6
        have hXc : (co R) k = X := by rw [MP.Se.co_at hkR]; exact hX
        have hXs : Si X J := by rw [← hXc, hI.low k (Nat.lt_succ_self k)]; exact hPJ.out _
        replace z6 := z6.slim hXs
        have hSk : Hid (X * C ^ i = S k) := Lib.hid (by rw [hI.lowS k (Nat.lt_succ_self k), HC.out, ← hI.low k (Nat.lt_succ_self k), hXc, Int.mul_comm])
        obtain ⟨KI, hKI⟩ : ∃ KI, J + i * (J2 + 1) = KI := ⟨_, rfl⟩
        have hKI2 : KI + J2 + 1 ≤ K := by have h1 : (i + 1) * (J2 + 1) ≤ T * (J2 + 1) := Nat.mul_le_mul_right _ hiT; have := HK.out; rw [Nat.add_mul] at h1; omega
        obtain ⟨KP, hKP⟩ : ∃ KP, i * J2 + 1 = KP := ⟨_, rfl⟩
        have e9 : i * (J2 + 1) = i * J2 + i := by rw [Nat.mul_add, Nat.mul_one]
        have hKP2 : J + KP ≤ KI + 1 := by omega
        clear e9
        obtain ⟨W, hW⟩ : ∃ W, C ^ i = W := ⟨_, rfl⟩
        rw [hW] at x_p z_p hSk
        rw [hKP] at z_p
        rw [hKI] at hS
        have HI := Lib.hid hI; have HS := Lib.hid hS; have HKI := Lib.hid hKI; have HRm := Lib.hid hRm; have HKd := Lib.hid hkd; have HKR := Lib.hid hkR; have HKt := Lib.hid hkt; have HTL2 := Lib.hid htl; have HW := Lib.hid hW; have HKP := Lib.hid hKP
        obtain ⟨e, he⟩ : ∃ e, k + m2 = e := ⟨_, rfl⟩
        have hid1 : IntKind.i64.wrap ((T : Int) - 1) = ((T - 1 : Nat) : Int) := by rw [i64_keep (by omega) (by omega)]; omega
        have hid2 : IntKind.i64.wrap (((T - 1 : Nat) : Int) - i) = (k : Int) := by rw [i64_keep (by omega) (by omega)]; omega
        have hid3 : IntKind.i64.wrap ((k : Int) + m2) = (e : Int) := by rw [i64_keep (by omega) (by omega)]; omega
        have hmc : m ≤ c3 := by obtain ⟨_, _, _, h1, _⟩ := p_g; exact h1
        have hke : k ≤ e := by omega
        have hec : e ≤ c3 := by have := HTm.out; omega
        have hek : e - k = m2 := by omega
        have hck : ¬ c3 = k := by have := HTm.out; omega
        have hkT : k < T := by omega
        have hki : Hid (T - (i + 1) = k) := Lib.hid (by omega)
        have HE := Lib.hid he
        obtain ⟨Sk, hSkk⟩ : ∃ s, S k = s := ⟨_, rfl⟩
        rw [hSkk] at hSk
        have HSK := Lib.hid hSkk
        clear hI hS hXc hX hKI hRm hkd hkR hkt htl he hk hXs hW hKP hSkk
        have lpp := x_p.lt
        have ltt := p_t.lt
        go_upto_region 12 with fail
        go_cut [54] (fun _ wx => RcR R k Sk K g c3 m wr wx)
        case first =>
          have hf : Fz (fun b => b = g) wr wr := Fz.refl _
          have q_p := x_p.al
          have q_e := x_e.al
          have f_t := And.intro (p_g.fr (k * 2)) (p_g.fr (k * 2 + 1))
          go_region_law (first | (go_simp; go_at_call 84; (with_reducible refine (ZMul_any z6.zr.drw z_p.zr.drw K (by omega) (by omega)).mono ?_); rintro e v1 ⟨A8, n8, c8, rfl, z8, hb1⟩; replace hb1 := undrew hb1; obtain ⟨x_p, x_e, z6, z_p, p_g, hf, hb⟩ := mv7 hb1 x_p x_e z6 z_p p_g hf hb; clear hb1; replace q_p := x_p.al; replace q_e := x_e.al; replace f_t := And.intro (p_g.fr (k * 2)) (p_g.fr (k * 2 + 1))))
          all_goals go_wp2_with fail
          all_goals go_meet
          all_goals rw [hSk.out] at z8
          all_goals (try rw [hSk.out])
          all_goals exact RcR.put hf p_g HKR.out z8
        case rest =>
          obtain ⟨hf, p_g2⟩ := hcut
          clear x_e z6 p_g
          replace x_p := x_p.via hf (by omega)
          replace z_p := z_p.via hf
          replace p_t := p_t.via hf (by omega)
          replace h4 : Pe wc w.heap.size A4 m2 c4 Q J2 := h4.via hf (fun b e => by omega)
          replace hb : Below w.heap.size w wc := Fz.below (P := fun _ => False) ((Fz.of hb).more hf (fun b hb e => by omega)) (fun b hb h => h)
          clear hf
          generalize wc = v9 at *
          obtain ⟨R2, hR2⟩ : ∃ R2, R.set k Sk = R2 := ⟨_, rfl⟩
          rw [hR2] at p_g2
          have hR2l : R2.length = R.length := by rw [← hR2, List.length_set]
          have hR2v : ∀ a, a < k + d + 1 → (co R2) a = if a < k then (co R) a else if a < k + 0 then C * S a - S (k + d) * (co Q) (a - k) else S a := fun a ha => by
            rw [← hR2, MP.Se.co_set_at HKR.out]
            by_cases h1 : a = k
            · subst h1; rw [if_pos rfl, if_neg (by omega), if_neg (by omega), HSK.out]
            · rw [if_neg h1]
              by_cases h2 : a < k
              · rw [if_pos h2]
              · rw [if_neg h2, if_neg (by omega), ← HI.out.mid a (by omega) (by omega)]
          obtain ⟨f, hf⟩ : ∃ f, S (k + d) = f := ⟨_, rfl⟩
          have hkd2 : k + d < R2.length := by rw [hR2l]; exact HKd.out
          obtain ⟨A11, n11, c11, x_e, z7⟩ := p_g2.ec hkd2
          have hfe : R2[k + d] = f := by rw [← MP.Se.co_at hkd2, hR2v _ (by omega), if_neg (by omega), if_neg (by omega)]; exact hf
          rw [hfe] at x_e z7
          have hfs : Si f KI := by rw [← hf]; exact HS.out _
          replace z7 := z7.slim hfs
          have zK := z7.kto (K := K) (by omega)
          rw [hf] at hR2v
          have HF := Lib.hid hf; have HV := Lib.hid hR2v; have HFS := Lib.hid hfs; have HR2L := Lib.hid hR2l
          rw [Nat.add_mul] at x_e
          clear hR2 hf hfe hkd2 hfs hR2v hR2l
          have q_p := x_p.al
          have q_e := x_e.al
          obtain ⟨At1, nt1, ct1, x_t, _⟩ := p_t.ec (k := k) HKt.out
          have q_t := x_t.al
          have f_t := And.intro (p_t.fr (k * 2)) (p_t.fr (k * 2 + 1))
          go_upto_region 14 with fail
          clear x_t f_t q_t
          clear x_e q_e
          clear q_p
          refine p_t.st (k := k) HKt.out zK fun v2 hs hx => ?_
          obtain ⟨x_p, z7, zK, z_p, h4, p_g2, hb⟩ := ms7 hs ⟨by omega, trivial, trivial, trivial, by omega, by omega, by omega⟩ x_p z7 zK z_p h4 p_g2 hb
          replace p_t := hx; clear hx hs
          have q_p := x_p.al
          clear q_p
          have hr1 : RjR w R Q (t.set k f) S C f J2 K g c3 m gt k d gp Ap np cp KP W A4 m2 c4 0 v2 := ⟨R2, p_g2, HV.out, p_t, x_p, z_p, h4, hb⟩
          clear p_g2 p_t x_p z_p h4 hb z7 zK
          go_wp2_with fail
          go_loopw [64] (fun kv wr => ∃ j : Nat, j ≤ d ∧ kv = .int .i64 (j : Int) ∧ RjR w R Q (t.set k f) S C f J2 K g c3 m gt k d gp Ap np cp KP W A4 m2 c4 j wr) (fun kv _ => d - (intOf kv).toNat)
          case atStart => exact ⟨0, by omega, rfl, hr1⟩
          case round =>
            clear hr1
            obtain ⟨j, hj, rfl, Rj, p_g, hRj, p_t, x_p, z_p, h4, hb⟩ := hrel
            have hRjm := p_g.len
            obtain ⟨d4, o4, b12, A12, n12, c12, rfl, hd4, x_q, zq⟩ := h4.ec hdm2
            have hQe : Q[d]'(by rw [hQd.out]; omega) = C := by rw [← MP.Se.co_at (by rw [hQd.out]; omega)]; exact HC.out
            rw [hQe] at zq
            clear hQe
            rcases (show d = j ∨ j < d by omega) with hjm | hjm
            · subst hjm
              have hR3 : ∀ a, a < k + d → (co Rj) a = if a < k then (co R) a else (co Q) d * S a - S (k + d) * (co Q) (a - k) := fun a ha => by
                rw [hRj a (by omega), HC.out, HF.out]
                by_cases h1 : a < k
                · rw [if_pos h1, if_pos h1]
                · rw [if_neg h1, if_neg h1, if_pos ha]
              have hI2 := HI.out.step hQd.out HKt.out hR3
              rw [HF.out] at hI2
              have hI3 := Lib.hid hI2
              have hS2 : ∀ a, Si ((MP.Se.nxS Q d k S) a) (J + (i + 1) * (J2 + 1)) := fun a => by
                have e9 : J + (i + 1) * (J2 + 1) = KI + J2 + 1 := by rw [← HKI.out, Nat.add_mul]; omega
                rw [MP.Se.nxS_at hQd.out, HF.out, e9]
                refine Si.sub (((hQJ.out d).mul (HS.out a)).mono (by omega)) ?_
                split
                · exact Si.zero _
                · exact (HFS.out.mul (hQJ.out _)).mono (by omega)
              have HS2 := Lib.hid hS2
              have hWC : Hid (W * C = C ^ (i + 1)) := Lib.hid (by rw [← HW.out, Int.pow_succ])
              have hKP3 : KP + J2 = (i + 1) * J2 + 1 := by rw [← HKP.out, Nat.add_mul]; omega
              obtain ⟨K9, hK9⟩ : ∃ K9, (i + 1) * J2 + 1 = K9 := ⟨_, rfl⟩
              rw [hK9] at hKP3
              have HK9 := Lib.hid hK9
              have hK99 : K9 ≤ 1000000 := by omega
              clear hR3 hI2 hS2 hRj hRjm hK9
              have q_p := x_p.al
              have q_q := x_q.al
              go_upto_region 19 with fail
              go_region_law (first | (go_simp; go_at_call 84; (with_reducible refine (ZMul_any z_p.zr.drw zq.drw K9 (by omega) hK99).mono ?_); rintro e v3 ⟨A13, n13, c13, rfl, z13, hb1⟩; replace hb1 := undrew hb1; obtain ⟨x_p, x_q, z_p, h4, p_g, p_t, zq, hb⟩ := mv8 hb1 x_p x_q z_p h4 p_g p_t zq hb; clear hb1; replace q_p := x_p.al; replace q_q := x_q.al))
              all_goals
                clear q_q x_q
                rw [hWC.out] at z13
                rw [← HK9.out] at z13
                (try rw [hWC.out])
                go_wp2
                (try rw [hWC.out])
                refine ⟨⟨i + 1, by omega, by go_num, ?_⟩, by simp [intOf]; omega⟩
                clear q_p
                refine x_p.st (F := RtR w P Q C J J2 K g c3 m gt T d gp (some ⟨d4, o4, none⟩) m2 c4 (i + 1)) fun v4 hs hx => ?_
                obtain ⟨z_p, h4, p_g, p_t, zq, z13, hb⟩ := ms7 hs ⟨trivial, by omega, by omega, by omega, trivial, trivial, by omega⟩ z_p h4 p_g p_t zq z13 hb
                replace x_p := hx; clear hx hs
                have q_p := x_p.al
                exact ⟨Rj, t.set k f, MP.Se.nxS Q d k S, _, p_g, p_t, by rw [List.length_set]; exact HTL2.out, by rw [hki.out]; exact hI3.out, HS2.out, ⟨A13, n13, c13, x_p, z13⟩, h4, hb⟩
            · have hkj : k + j < Rj.length := by have := HKd.out; have := HRm.out; omega
              obtain ⟨A14, n14, c14, x_e, z5⟩ := p_g.ec hkj
              obtain ⟨d5, o5, b15, A15, n15, c15, he5, hd5, x_f, z6⟩ := h4.ec (k := j) (by omega)
              injection he5 with he5; injection he5 with he51 he52
              subst he51; subst he52
              have hkts : k < (t.set k f).length := by rw [List.length_set]; exact HKt.out
              obtain ⟨A16, n16, c16, x_t, z7⟩ := p_t.ec hkts
              rw [List.getElem_set_self] at x_t z7
              replace z7 := z7.slim HFS.out
              have hV : (co Rj) (k + j) = S (k + j) := by rw [hRj _ (by omega), if_neg (by omega), if_neg (by omega)]
              obtain ⟨V, hVV⟩ : ∃ V, S (k + j) = V := ⟨_, rfl⟩
              rw [MP.Se.co_at hkj, hVV] at hV
              rw [hV] at x_e z5
              have hVs : Si V KI := by rw [← hVV]; exact HS.out _
              replace z5 := z5.slim hVs
              obtain ⟨U, hU⟩ : ∃ U, Q[j]'(by rw [hQd.out]; omega) = U := ⟨_, rfl⟩
              rw [hU] at z6
              have hUc : (co Q) j = U := by rw [MP.Se.co_at (by rw [hQd.out]; omega)]; exact hU
              have HST := Lib.hid (rj_step (C := C) (V := V) (U := U) (Y := 0) hRj hjm hkj hVV hUc)
              have HKJ := Lib.hid hkj
              rw [Nat.add_mul] at x_e
              have hjm2 : j < m2 := by omega
              clear hkj hV hVV hVs hU hUc hRj hRjm hkts
              have q_p := x_p.al
              have q_e := x_e.al
              have q_f := x_f.al
              have q_q := x_q.al
              have q_t := x_t.al
              clear q_p
              have f_t := And.intro (p_g.fr (k * 2 + j * 2)) (p_g.fr (k * 2 + j * 2 + 1))
              go_upto_region 17 with fail
              go_region_law (first | (go_simp; go_at_call 84; (with_reducible refine (ZMul_any z5.zr.drw zq.drw (KI + J2) (by omega) (by omega)).mono ?_); rintro e v3 ⟨A17, n17, c17, rfl, z17, hb1⟩; replace hb1 := undrew hb1; obtain ⟨x_p, x_e, x_f, x_q, x_t, z_p, h4, p_g, p_t⟩ := mv9 hb1 x_p x_e x_f x_q x_t z_p h4 p_g p_t; obtain ⟨zq, z5, z6, z7, hb⟩ := mv5 hb1 zq z5 z6 z7 hb; clear hb1; replace q_e := x_e.al; replace q_f := x_f.al; replace q_q := x_q.al; replace q_t := x_t.al; replace f_t := And.intro (p_g.fr (k * 2 + j * 2)) (p_g.fr (k * 2 + j * 2 + 1))) | (go_simp; go_at_call 84; (with_reducible refine (ZMul_any z7.zr z6 (KI + J2) (by omega) (by omega)).mono ?_); rintro e v4 ⟨A18, n18, c18, rfl, z18, hb1⟩; obtain ⟨x_p, x_e, x_f, x_q, x_t, z_p, h4, p_g, p_t⟩ := mv9 hb1 x_p x_e x_f x_q x_t z_p h4 p_g p_t; obtain ⟨zq, z5, z6, z7, z17, hb⟩ := mv6 hb1 zq z5 z6 z7 z17 hb; clear hb1; replace q_e := x_e.al; replace q_f := x_f.al; replace q_q := x_q.al; replace q_t := x_t.al; replace f_t := And.intro (p_g.fr (k * 2 + j * 2)) (p_g.fr (k * 2 + j * 2 + 1))) | (go_simp; go_at_call 116; (with_reducible refine (ZSub_any z17.zr z18.zr K (by omega) (by omega) (by omega)).mono ?_); rintro e v5 ⟨A19, n19, c19, rfl, z19, hb1⟩; obtain ⟨x_p, x_e, x_f, x_q, x_t, z_p, h4, p_g, p_t⟩ := mv9 hb1 x_p x_e x_f x_q x_t z_p h4 p_g p_t; obtain ⟨zq, z5, z6, z7, z17, z18, hb⟩ := mv7 hb1 zq z5 z6 z7 z17 z18 hb; clear hb1; replace q_e := x_e.al; replace q_f := x_f.al; replace q_q := x_q.al; replace q_t := x_t.al; replace f_t := And.intro (p_g.fr (k * 2 + j * 2)) (p_g.fr (k * 2 + j * 2 + 1))))
              all_goals
                clear q_e q_f q_q q_t f_t x_e x_f x_q x_t
                go_wp2
                refine ⟨⟨j + 1, by omega, by go_num, ?_⟩, by simp [intOf]; omega⟩
                rw [← Nat.add_mul]
                refine p_g.st (F := RjR w R Q (t.set k f) S C f J2 K g c3 m gt k d gp Ap np cp KP W (some ⟨d4, o4, none⟩) m2 c4 (j + 1)) (k := (k + j)) HKJ.out z19 fun v6 hs hx => ?_
                obtain ⟨x_p, z_p, h4, p_t, zq, z5, z6, z7, z17⟩ := ms9 hs ⟨by omega, trivial, by omega, by omega, trivial, trivial, trivial, trivial, trivial⟩ x_p z_p h4 p_t zq z5 z6 z7 z17
                obtain ⟨z18, z19, hb⟩ := ms3 hs ⟨trivial, trivial, by omega⟩ z18 z19 hb
                replace p_g := hx; clear hx hs
                exact ⟨_, p_g, HST.out, p_t, x_p, z_p, h4, hb⟩
end Go.Proofs.YtbpamkpclofnbaaGreat
