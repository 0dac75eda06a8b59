/-
  polyz: Shift.
-/
import Derived.Test.YtnidohbbimfpjaaVrai
namespace Go.Proofs.Ytnidohbbimfpjaa
open Go.RowKit
open MP.Se (nf co)
set_option linter.unusedVariables false
set_option maxRecDepth 100000

/-- What the loop of Shift keeps. -/
def ShR (w : World) (b : Bool) (A2 : Option Addr) (n2 c2 : Nat) (X : Int) (J2 : Nat) (A : Option Addr) (n c : Nat) (l : List Int) (J k : Nat) (s : Value) (wr : World) : Prop :=
  Bx wr w.heap.size b A2 n2 c2 ∧ Zr wr b A2 n2 c2 X J2 ∧ Pe wr w.heap.size A n c l J ∧ (∃ A4 n4 c4 L, s = .slice A4 n4 c4 ∧ Po wr w.heap.size A4 n4 c4 L (J + k * (J2 + 2 * n + 2)) ∧ MP.Se.Nm L ∧ co L = MP.Se.pu (co (l.drop (l.length - k))) (MP.Se.xa X)) ∧ Below w.heap.size w wr
theorem co_one (a : Int) : co [a] = MP.Se.c a := by rw [MP.Se.co_cons, MP.Se.co_nil, MP.Se.sh_zero, MP.Se.add_zero]
theorem co_zcons (l : List Int) : co (0 :: l) = MP.Se.sh (co l) := by rw [MP.Se.co_cons, MP.Se.zero_add]
theorem PShift_any {A A2 : Option Addr} {n c n2 c2 J J2 K : Nat} {b : Bool} {X : Int} {l : List Int} {w : World} (h : Pd w w.heap.size A n c l J) (z : Zr w b A2 n2 c2 X J2) (hnb : n ≤ 10000) (hK : J + n * (J2 + 2 * n + 2) ≤ K) (hK2 : K ≤ 900000) :
    Calls Try.prog 52 #[.slice A n c, .agg #[.bool b, .slice A2 n2 c2]] w (OutS w (MP.Se.pu (co l) (MP.Se.xa X)) K) := by
  have hl := h.len
  replace h := h.pe
  have HL := Lib.hid hl; clear hl
  have hcap := h.cap
  have HK := Lib.hid hK; clear hK
  go_enter Try.func52, Try.ntmps52
  go_upto_region 2 with fail
  refine al1 fun v1 hb x_x => ?_
  replace x_x := Bx.of x_x
  obtain ⟨h, z⟩ := mv2 hb h z
  have q_x := x_x.al
  clear q_x
  have hr0 : ShR w b A2 n2 c2 X J2 A n c l J 0 (.slice none 0 0) v1 := by
    refine ⟨x_x, z, h, ⟨none, 0, 0, [], rfl, .inl ⟨rfl, rfl, rfl, rfl⟩, by simp [MP.Se.Nm], ?_⟩, hb⟩
    rw [Nat.sub_zero, List.drop_length, MP.Se.co_nil, MP.Se.pu_c]
  clear x_x z hb h
  go_wp2_with fail
  go_loopw [5, 10] (fun sv kv wr => ∃ k : Nat, k ≤ n ∧ kv = .int .i64 (k : Int) ∧ ShR w b A2 n2 c2 X J2 A n c l J k sv wr) (fun _ kv _ => n - (intOf kv).toNat)
  case atStart => exact ⟨0, by omega, rfl, hr0⟩
  case round =>
    clear hr0
    obtain ⟨k, hk, rfl, x_x, z, gp, ⟨A4, n4, c4, L, rfl, p, hL, hLc⟩, hb⟩ := hrel
    rcases (show k = n ∨ k < n by omega) with hkm | hkm
    · subst hkm
      have e0 : Hid (co L = MP.Se.pu (co l) (MP.Se.xa X)) := Lib.hid (by rw [hLc, HL.out, Nat.sub_self]; rfl)
      replace p := p.kto HK.out
      clear hLc
      go_wp2
      go_ret
      exact ⟨L, hL, e0.out, A4, n4, c4, rfl, p, hb⟩
    · have hln : L.length ≤ k := MP.Se.nm_len hL (by rw [hLc]; exact MP.Se.pu_bd ((MP.Se.co_bd _).le (by rw [List.length_drop]; have := HL.out; omega)) (MP.Se.Bd.xa X))
      have hLn := p.pd.len
      obtain ⟨i, hi⟩ : ∃ i, n - 1 - k = i := ⟨_, rfl⟩
      have hil : i < l.length := by have := HL.out; omega
      have hst : MP.Se.pu (co (l.drop (l.length - (k + 1)))) (MP.Se.xa X) = MP.Se.sh (co L) + MP.Se.sm X (co L) + MP.Se.c l[i] := by
          rw [hLc, List.drop_eq_getElem_cons (show l.length - (k + 1) < l.length by omega), show l.length - (k + 1) + 1 = l.length - k by have := HL.out; omega, MP.Se.shift_step]
          congr 3; have := HL.out; omega
      obtain ⟨d, o, e1, hp1⟩ := gp.2.drop (m := i) (by omega)
      subst e1
      have hp2 := hp1.take (m := 1) (by omega)
      have ehd : (l.drop i).take 1 = [l[i]] := by rw [List.drop_eq_getElem_cons hil]; rfl
      rw [ehd] at hp2
      have h1e : Pe wr w.heap.size (some ⟨d, o + i * 2, none⟩) 1 (c - i) [l[i]] J := ⟨gp.1, hp2⟩
      generalize l[i] = Y at *
      have HST := Lib.hid hst; have HLC := Lib.hid hLc; clear hst hLc hp1 hp2 ehd
      have hidx : IntKind.i64.wrap ((n : Int) - 1) = ((n - 1 : Nat) : Int) := by rw [i64_keep (by omega) (by omega)]; omega
      have hidx2 : IntKind.i64.wrap (((n - 1 : Nat) : Int) - k) = (i : Int) := by rw [i64_keep (by omega) (by omega)]; omega
      have hin : i < n := by omega
      obtain ⟨j, hj⟩ : ∃ j, i + 1 = j := ⟨_, rfl⟩
      have hidx3 : IntKind.i64.wrap ((i : Int) + 1) = (j : Int) := by rw [i64_keep (by omega) (by omega)]; omega
      have hjc : j ≤ c := by omega
      have hij : i ≤ j := by omega
      have hci : ¬ c = i := by omega
      have hji : j - i = 1 := by omega
      obtain ⟨KK, hKK⟩ : ∃ KK, J + k * (J2 + 2 * n + 2) = KK := ⟨_, rfl⟩
      obtain ⟨K1, hK1⟩ : ∃ K1, J + (k + 1) * (J2 + 2 * n + 2) = K1 := ⟨_, rfl⟩
      have hK2s : K1 = KK + (J2 + 2 * n + 2) := by rw [← hK1, ← hKK, Nat.add_mul]; omega
      have hKn : K1 ≤ 900000 := by have h1 : (k + 1) * (J2 + 2 * n + 2) ≤ n * (J2 + 2 * n + 2) := Nat.mul_le_mul_right _ hkm; have := HK.out; omega
      have hJK : J ≤ KK := by omega
      rw [hKK] at p
      have HK1 := Lib.hid hK1
      have HLN := Lib.hid hln
      have HLn := Lib.hid hLn
      have hn4 : n4 ≤ k := by omega
      clear hKK hK1 hln hLn hi
      have Hm7 := Lib.hid (show ∀ (L7 : List Int) (m7 : Nat) (u : Unit), MP.Se.Nm L7 → co L7 = MP.Se.sm X (co L) → L7.length = m7 → m7 ≤ k from fun L7 m7 _ h1 h2 h3 => by rw [← h3]; exact MP.Se.nm_len h1 (by rw [h2]; exact ((MP.Se.co_bd L).le HLN.out).sm))
      have q_x := x_x.al
      go_upto_region 6 with fail
      go_region_held3 (fun w' => w'.cell? ⟨w.heap.size, 0, none⟩ = some (.bool b) ∧ w'.cell? ⟨w.heap.size, 1, none⟩ = some (.slice A2 n2 c2))
        (first | (with_reducible exact ⟨x_x.c0, x_x.c1⟩) | (with_reducible exact ⟨(x_x.alloc _).c0, (x_x.alloc _).c1⟩) | go_keep)
        (first | (go_at_call 91; (with_reducible refine (PRaise_any p.pd.drw (by omega)).mono ?_); rintro e v2 ⟨A6, c6, rfl, h6, hb1⟩; replace hb1 := undrew hb1; obtain ⟨x_x, z, gp, p, h1e, hb⟩ := mv6 hb1 x_x z gp p h1e hb; clear hb1; replace q_x := x_x.al; replace h6 := h6.pe) | (go_at_call 24; (with_reducible refine (PTimesS_any (K := KK + J2) p.pd z (Nat.le_refl _) (by omega)).mono ?_); rintro e v3 ⟨L7, hN7, hL7, A7, m7, c7, rfl, p7, hb1⟩; obtain ⟨x_x, z, gp, p, h1e, h6, hb⟩ := mv7 hb1 x_x z gp p h1e h6 hb; clear hb1; replace q_x := x_x.al; have hm7 : m7 ≤ k := Hm7.out _ _ () hN7 hL7 p7.pd.len) | (go_at_call 90; refine al1c fun v4 hb1 x_T => ?_; obtain ⟨x_x, z, gp, p, h1e, h6, p7, hb⟩ := mv8 hb1 x_x z gp p h1e h6 p7 hb; clear hb1; replace q_x := x_x.al; have hT : KK + J2 + tT [(A6, n4 + 1, c6, 0 :: L), (A7, m7, c7, L7), (some ⟨d, o + i * 2, none⟩, 1, c - i, [Y])] ≤ K1 := (by show KK + J2 + (0 + (n4 + 1) + m7 + 1) ≤ K1; omega); (with_reducible refine (PSum_any (N := 3) (c := 3) (J := KK + J2) (Tm.three (h6.pd.pe.kto (by omega)) p7.pd.pe (h1e.pd.pe.kto (by omega)) x_T) rfl (by omega) (Nat.le_refl _) (Nat.le_refl _) hT hKn).mono ?_); rintro e v5 ⟨L8, hN8, hL8, A8, m8, c8, rfl, p8, hb1⟩; replace p8 := p8.more hb.size; obtain ⟨x_x, z, gp, p, h1e, h6, p7, hb⟩ := mv8 hb1 x_x z gp p h1e h6 p7 hb; clear hb1; replace q_x := x_x.al))
      have hs8 : co L8 = MP.Se.pu (co (l.drop (l.length - (k + 1)))) (MP.Se.xa X) := by
        rw [hL8, HST.out]
        show MP.Se.c 0 + co (0 :: L) + co L7 + co [Y] = _
        rw [MP.Se.zero_add, co_zcons, hL7, co_one]
      rw [← HK1.out] at p8
      clear hT x_T
      have HS8 := Lib.hid hs8; clear hs8 hL8 hL7
      go_wp2
      exact ⟨⟨k + 1, by omega, by go_num, x_x, z, gp, ⟨A8, m8, c8, L8, rfl, p8, hN8, HS8.out⟩, hb⟩, by simp [intOf]; omega⟩
end Go.Proofs.Ytnidohbbimfpjaa
