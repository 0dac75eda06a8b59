/-
  polyz: Mul.
-/
import Derived.Test.YtnidohbbimfpjaaVmap
namespace Go.Proofs.Ytnidohbbimfpjaa
open Go.RowKit
open MP.Se (nf co)
set_option linter.unusedVariables false
set_option maxRecDepth 100000

/-- A slice of integers is handed back that is the polynomial s. -/
def OutS (w : World) (s : MP.Se) (K : Nat) (e : Ending) (w' : World) : Prop := ∃ L, MP.Se.Nm L ∧ co L = s ∧ OutP w L K e w'
theorem OutP.s {w w' : World} {L : List Int} {K : Nat} {e : Ending} (h : OutP w (nf L) K e w') : OutS w (co L) K e w' := ⟨nf L, MP.Se.nm_nf L, MP.Se.co_nf L, h⟩
/-- What the loops of Mul keep: the first list's beginning times the second one, and what has come of the next one. -/
def MuR (w : World) (P Q : List Int) (J J2 g : Nat) (A : Option Addr) (n c : Nat) (A2 : Option Addr) (n2 c2 i k : Nat) (wr : World) : Prop :=
  ∃ L : List Int, Pw wr g L (J + J2 + i * n2 + k) ∧ L.length = n + n2 - 1 ∧ co L = co (P.take i) * co Q + MP.Se.mo i (P.getD i 0) * co (Q.take k) ∧ Pe wr w.heap.size A n c P J ∧ Pe wr w.heap.size A2 n2 c2 Q J2 ∧ Below w.heap.size w wr
theorem MuR.next {w : World} {P Q : List Int} {J J2 g : Nat} {A : Option Addr} {n c : Nat} {A2 : Option Addr} {n2 c2 i : Nat} {wr : World} (hi : i < P.length) (hQ : Q.length = n2) (h : MuR w P Q J J2 g A n c A2 n2 c2 i n2 wr) : MuR w P Q J J2 g A n c A2 n2 c2 (i + 1) 0 wr := by
  obtain ⟨L, p, h1, h2, h3⟩ := h
  refine ⟨L, ?_, h1, ?_, h3⟩
  · rwa [Nat.add_zero, Nat.add_mul, Nat.one_mul, ← Nat.add_assoc]
  · rw [h2, MP.Se.co_take_all (l := Q) (k := n2) (by omega), List.getD_eq_getElem?_getD, List.getElem?_eq_getElem hi, List.take_zero, MP.Se.co_nil, MP.Se.mul_zero, MP.Se.add_zero]
    exact MP.Se.mul_round hi
theorem MuR.last {w : World} {P Q : List Int} {J J2 g : Nat} {A : Option Addr} {n c : Nat} {A2 : Option Addr} {n2 c2 : Nat} {wr : World} (hn : P.length = n) (h : MuR w P Q J J2 g A n c A2 n2 c2 n 0 wr) : ∃ L, Pw wr g L (J + J2 + n * n2) ∧ L.length = n + n2 - 1 ∧ co L = co P * co Q ∧ Below w.heap.size w wr := by
  obtain ⟨L, p, h1, h2, _, _, h3⟩ := h
  refine ⟨L, p, h1, ?_, h3⟩
  rw [h2, MP.Se.co_take_all (by omega), List.take_zero, MP.Se.co_nil, MP.Se.mul_zero, MP.Se.add_zero]
/-- One product more. -/
theorem mu_step {P Q L : List Int} {i k u : Nat} {X Y V Z : Int} (hi : i < P.length) (hk : k < Q.length) (hu : i + k < L.length) (h : co L = co (P.take i) * co Q + MP.Se.mo i (P.getD i 0) * co (Q.take k)) (hX : P[i] = X) (hY : Q[k] = Y) (hV : L[i + k] = V) :
    co (L.set (i + k) (V + X * Y)) = co (P.take i) * co Q + MP.Se.mo i (P.getD i 0) * co (Q.take (k + 1)) := by
  have e : P.getD i 0 = P[i] := by rw [List.getD_eq_getElem?_getD, List.getElem?_eq_getElem hi]; rfl
  rw [e] at h ⊢
  rw [MP.Se.mul_step hi hk, ← MP.Se.add_assoc, ← h, ← hV, ← hX, ← hY]
  exact MP.Se.co_set hu _
set_option maxHeartbeats 8000000 in
theorem PMul_any {A A2 : Option Addr} {n c n2 c2 J J2 K : Nat} {l l2 : List Int} {w : World} (h : Pd w w.heap.size A n c l J) (h2 : Pd w w.heap.size A2 n2 c2 l2 J2) (hn : n + n2 ≤ 100000) (hK : J + J2 + n * n2 ≤ K) (hK2 : K ≤ 900000) :
    Calls Try.prog 26 #[.slice A n c, .slice A2 n2 c2] w (OutS w (co l * co l2) K) := by
  have hl := h.len
  have hl2 := h2.len
  have hle := MP.Se.nf_len l
  have hle2 := MP.Se.nf_len l2
  replace h := h.pe
  replace h2 := h2.pe
  have hNm := MP.Se.nm_nf l
  have hNm2 := MP.Se.nm_nf l2
  rw [← MP.Se.co_nf l, ← MP.Se.co_nf l2]
  obtain ⟨P, hP⟩ : ∃ N, nf l = N := ⟨_, rfl⟩
  obtain ⟨Q, hQ⟩ : ∃ N, nf l2 = N := ⟨_, rfl⟩
  rw [hP, hQ]
  rw [hP] at hNm hle; rw [hQ] at hNm2 hle2
  have HP := Lib.hid hP; have HQ := Lib.hid hQ; have HN1 := Lib.hid hNm; have HN2 := Lib.hid hNm2
  have HK : Hid (J + J2 + P.length * Q.length ≤ K) := Lib.hid (Nat.le_trans (Nat.add_le_add_left (Nat.mul_le_mul (by omega) (by omega)) _) hK)
  have hJ1 : J ≤ 900000 := by have := HK.out; omega
  have hJ2 : J2 ≤ 900000 := by have := HK.out; omega
  clear hP hQ hNm hNm2 hK
  go_enter Try.func26, Try.ntmps26
  go_wp2_with fail
  with_reducible refine (Ptrim_any h.pd (by omega)).mono ?_
  rintro e v1 ⟨A3, m, c3, rfl, hm, ht, hb⟩
  replace h := h.keep hb; replace h2 := h2.keep hb
  have h3 : Pe v1 w.heap.size A3 m c3 P J := ⟨h.1, by have := h.2.trim hm ht; rwa [HP.out] at this⟩
  clear h hm ht
  go_wp2_with fail
  with_reducible refine (Ptrim_any h2.pd (by omega)).mono ?_
  rintro e v2 ⟨A4, m2, c4, rfl, hm, ht, hb1⟩
  replace h2 := h2.keep hb1; replace h3 := h3.keep hb1
  have h4 : Pe v2 w.heap.size A4 m2 c4 Q J2 := ⟨h2.1, by have := h2.2.trim hm ht; rwa [HQ.out] at this⟩
  replace hb := bthen hb hb1
  clear h2 hm ht hb1
  have hl3 := h3.len; have hl4 := h4.len
  rcases (show m = 0 ∨ 0 < m by omega) with h0 | h0
  · obtain rfl : P = [] := List.eq_nil_of_length_eq_zero (by omega)
    have e0 : Hid (co [] * co Q = co ([] : List Int)) := Lib.hid (by rw [MP.Se.co_nil, MP.Se.zero_mul])
    subst h0
    clear h3 h4 hl3 hl4
    go_wp2
    go_ret
    exact ⟨[], by simp [MP.Se.Nm], by rw [e0.out], none, 0, 0, rfl, .inl ⟨rfl, rfl, rfl, rfl⟩, hb⟩
  rcases (show m2 = 0 ∨ 0 < m2 by omega) with h02 | h02
  · obtain rfl : Q = [] := List.eq_nil_of_length_eq_zero (by omega)
    have e0 : Hid (co P * co [] = co ([] : List Int)) := Lib.hid (by rw [MP.Se.co_nil, MP.Se.mul_zero])
    subst h02
    have hm0 : ((m : Int) == 0) = false := by simp; omega
    clear h3 h4 hl3 hl4
    go_wp2
    go_ret
    exact ⟨[], by simp [MP.Se.Nm], by rw [e0.out], none, 0, 0, rfl, .inl ⟨rfl, rfl, rfl, rfl⟩, hb⟩
  have hm0 : ((m : Int) == 0) = false := by simp; omega
  have hm20 : ((m2 : Int) == 0) = false := by simp; omega
  obtain ⟨T, hT⟩ : ∃ T, m + m2 - 1 = T := ⟨_, rfl⟩
  have e1 : IntKind.i64.wrap ((m : Int) + m2) = ((m + m2 : Nat) : Int) := by rw [i64_keep (by omega) (by omega)]; omega
  have e2 : IntKind.i64.wrap (((m + m2 : Nat) : Int) - 1) = (T : Int) := by rw [i64_keep (by omega) (by omega)]; omega
  have hSb : m + m2 ≤ 100000 := by omega
  have HL3 := Lib.hid hl3; have HL4 := Lib.hid hl4; clear hl3 hl4
  obtain ⟨S, hS⟩ : ∃ S, m + m2 = S := ⟨_, rfl⟩
  rw [hS] at e1 e2 hSb
  have HS := Lib.hid hS
  have HT := Lib.hid hT
  have hTb : T ≤ 100000 := by omega
  clear hS hT
  go_wp2_with (at_make; refine wp_makeP rfl _ _ rfl T (J + J2) _ _ rfl rfl rfl rfl hTb ?_; intro v3 p_g hb1)
  obtain ⟨g, hg⟩ : ∃ g, v2.heap.size = g := ⟨_, rfl⟩
  rw [hg] at p_g ⊢
  have hgw : w.heap.size ≤ g := by rw [← hg]; exact hb.size
  replace h3 := h3.keep hb1; replace h4 := h4.keep hb1; replace hb := bthen hb hb1
  have hr0 : MuR w P Q J J2 g A3 m c3 A4 m2 c4 0 0 v3 := ⟨_, by simpa using p_g, by simp; have := HT.out; have := HS.out; omega, by rw [List.take_zero, MP.Se.co_nil, MP.Se.zero_mul, List.take_zero, MP.Se.co_nil, MP.Se.mul_zero, MP.Se.add_zero]; exact MP.Se.co_rep _, h3, h4, hb⟩
  clear p_g h3 h4 hb hb1 hg
  go_wp2_with fail
  go_loopw [29] (fun kv wr => ∃ i : Nat, i ≤ m ∧ kv = .int .i64 (i : Int) ∧ MuR w P Q J J2 g A3 m c3 A4 m2 c4 i 0 wr) (fun kv _ => m - (intOf kv).toNat)
  case atStart => exact ⟨0, by omega, rfl, hr0⟩
  case round =>
    clear hr0
    obtain ⟨i, hi, rfl, hr0⟩ := hrel
    rcases (show i = m ∨ i < m by omega) with him | him
    · subst him
      obtain ⟨L, p_g, hL, hLc, hb⟩ := hr0.last HL3.out
      have hpo := p_g.po (B := w.heap.size) hgw
      have hLT : L.length = T := by have := HT.out; have := HS.out; omega
      have HPP := Lib.hid (MP.Se.mul_nm HN1.out HN2.out (by intro e; rw [e] at HL3; have := HL3.out; simp at this; omega) (by intro e; rw [e] at HL4; have := HL4.out; simp at this; omega) (by rw [HL3.out, HL4.out]; exact hL) hLc)
      rw [hLT] at hpo
      have HLC := Lib.hid hLc
      have hK3 : J + J2 + i * m2 ≤ K := by rw [← HL3.out, ← HL4.out]; exact HK.out
      have HK3 := Lib.hid hK3
      clear hr0 p_g hL hLc hK3 hLT
      go_wp2
      go_ret
      exact ⟨L, HPP.out, HLC.out, _, T, T, rfl, hpo.kto HK3.out, hb⟩
    · have hiP : i < P.length := by have := HL3.out; omega
      have HNX := Lib.hid (fun wr => MuR.next (w := w) (J := J) (J2 := J2) (g := g) (A := A3) (n := m) (c := c3) (A2 := A4) (c2 := c4) (wr := wr) hiP HL4.out)
      have him2 : (i + 1) * m2 ≤ m * m2 := Nat.mul_le_mul_right _ him
      have HIM : Hid (J + J2 + (i * m2 + m2) ≤ 900000) := Lib.hid (by rw [Nat.add_mul, Nat.one_mul] at him2; have := HK.out; rw [HL3.out, HL4.out] at this; omega)
      clear him2
      go_wp2_with fail
      go_loopw [34] (fun kv wr => ∃ k : Nat, k ≤ m2 ∧ kv = .int .i64 (k : Int) ∧ MuR w P Q J J2 g A3 m c3 A4 m2 c4 i k wr) (fun kv _ => m2 - (intOf kv).toNat)
      case atStart => exact ⟨0, by omega, rfl, hr0⟩
      case round =>
        clear hr0
        obtain ⟨k, hk, rfl, hr0⟩ := hrel
        rcases (show k = m2 ∨ k < m2 by omega) with hkm | hkm
        · subst hkm
          have hr1 := HNX.out _ hr0
          clear hr0
          go_wp2
          exact ⟨⟨i + 1, by omega, by go_num, hr1⟩, by simp [intOf]; omega⟩
        · have hkQ : k < Q.length := by have := HL4.out; omega
          obtain ⟨L, p_g, hL, hLc, h3, h4, hb⟩ := hr0
          have hiL : i + k < L.length := by have := HL3.out; have := HL4.out; omega
          obtain ⟨d, o, b5, A5, n5, c5, rfl, hd, x_e, z5⟩ := h3.ec him
          obtain ⟨d2, o2, b6, A6, n6, c6, rfl, hd2, x_f, z6⟩ := h4.ec hkm
          obtain ⟨A7, n7, c7, x_t, z7⟩ := p_g.ec hiL
          obtain ⟨X, hX⟩ : ∃ X, P[i] = X := ⟨_, rfl⟩
          obtain ⟨Y, hY⟩ : ∃ Y, Q[k] = Y := ⟨_, rfl⟩
          obtain ⟨V, hV⟩ : ∃ V, L[i + k] = V := ⟨_, rfl⟩
          have hst := mu_step (u := 0) (Z := 0) hiP hkQ hiL hLc hX hY hV
          rw [hX] at z5; rw [hY] at z6; rw [hV] at x_t z7
          obtain ⟨u, hu⟩ : ∃ u, i + k = u := ⟨_, rfl⟩
          rw [hu] at x_t hst hiL
          have eu : IntKind.i64.wrap ((i : Int) + k) = (u : Int) := by rw [i64_keep (by omega) (by omega)]; omega
          have huT : u < T := by have := HT.out; have := HS.out; omega
          have HST := Lib.hid hst; have HLL := Lib.hid hL; have HLI := Lib.hid hiL
          have hKb : J + J2 + i * m2 + k + 1 ≤ 900000 := by have := HIM.out; omega
          obtain ⟨K0, hK0⟩ : ∃ K0, J + J2 + i * m2 + k = K0 := ⟨_, rfl⟩
          have hJJ : J + J2 ≤ K0 := by omega
          rw [hK0] at p_g z7 hKb
          have HK0 := Lib.hid hK0
          clear hst hL hiL hLc hX hY hV hu hK0
          have q_e := x_e.al
          have q_f := x_f.al
          have q_t := x_t.al
          have f_t := And.intro (p_g.fr (u * 2)) (p_g.fr (u * 2 + 1))
          go_upto_region 11 with fail
          go_region_law (first | (go_simp; go_at_call 40; (with_reducible refine (ZMul_any z5.drw z6.drw (J + J2) (by omega) (by omega)).mono ?_); rintro e v1 ⟨A8, n8, c8, rfl, z8, hb1⟩; replace hb1 := undrew hb1; obtain ⟨x_e, x_f, x_t, h3, h4, p_g, z5, z6, z7⟩ := mv9 hb1 x_e x_f x_t h3 h4 p_g z5 z6 z7; replace hb := Mv.mv hb hb1; clear hb1; replace q_e := x_e.al; replace q_f := x_f.al; replace q_t := x_t.al; replace f_t := And.intro (p_g.fr (u * 2)) (p_g.fr (u * 2 + 1))) | (go_simp; go_at_call 39; (with_reducible refine (ZAdd_any z7.zr z8.zr (K0 + 1) (by omega) (by omega) (by omega)).mono ?_); rintro e v2 ⟨A9, n9, c9, rfl, z9, hb1⟩; obtain ⟨x_e, x_f, x_t, h3, h4, p_g, z5, z6, z7⟩ := mv9 hb1 x_e x_f x_t h3 h4 p_g z5 z6 z7; obtain ⟨z8, hb⟩ := mv2 hb1 z8 hb; clear hb1; replace q_e := x_e.al; replace q_f := x_f.al; replace q_t := x_t.al; replace f_t := And.intro (p_g.fr (u * 2)) (p_g.fr (u * 2 + 1))))
          all_goals
            clear x_t f_t q_t
            go_wp2
            refine ⟨⟨k + 1, by omega, by go_num, ?_⟩, by simp [intOf]; omega⟩
            replace p_g := p_g.kto (Nat.le_succ K0)
            clear q_e q_f
            refine p_g.st (F := MuR w P Q J J2 g (some ⟨d, o, none⟩) m c3 (some ⟨d2, o2, none⟩) m2 c4 i (k + 1)) (k := u) HLI.out z9 fun v3 hs hx => ?_
            obtain ⟨x_e, x_f, h3, h4, z5, z6, z7, z8, z9⟩ := ms9 hs ⟨by omega, by omega, by omega, by omega, trivial, trivial, trivial, trivial, trivial⟩ x_e x_f h3 h4 z5 z6 z7 z8 z9
            replace hb := Ms.ms hs (by omega) hb
            replace p_g := hx; clear hx hs
            have q_e := x_e.al
            have q_f := x_f.al
            exact ⟨_, by rw [← Nat.add_assoc, HK0.out]; exact p_g, by rw [List.length_set]; exact HLL.out, HST.out, h3, h4, hb⟩
end Go.Proofs.Ytnidohbbimfpjaa
