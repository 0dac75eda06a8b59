/-
  polyz: Value.
-/
import Derived.Test.YtlaphcimlingaaaGreatVmap
namespace Go.Proofs.YtlaphcimlingaaaGreat
open Go.RowKit
open MP.Se (nf co)
set_option linter.unusedVariables false
set_option maxRecDepth 100000

/-- What the loop of Value keeps. -/
def VaR (w : World) (b : Bool) (A : Option Addr) (n c : Nat) (X : Int) (l : List Int) (J J2 : Nat) (A5 : Option Addr) (n5 c5 k : Nat) (wr : World) : Prop :=
  Bx wr w.heap.size b A n c ∧ Bx wr (w.heap.size + 1) false none 0 0 ∧ Zr wr b A n c X J2 ∧ Pe wr w.heap.size A5 n5 c5 l J ∧ (∃ A' n' c', Bx wr (w.heap.size + 1 + 1) (ngB (MP.Se.hr (l.drop (l.length - k)) X)) A' n' c' ∧ Zn wr A' n' c' (MP.Se.hr (l.drop (l.length - k)) X) (J + k * (J2 + 1))) ∧ Below w.heap.size w wr
theorem hr_drop (l : List Int) (k : Nat) (hk : k < l.length) (X : Int) : MP.Se.hr (l.drop (l.length - k)) X * X + l[l.length - 1 - k]'(by omega) = MP.Se.hr (l.drop (l.length - (k + 1))) X := by
  rw [List.drop_eq_getElem_cons (show l.length - (k + 1) < l.length by omega)]
  rw [show l.length - (k + 1) + 1 = l.length - k by omega, MP.Se.hr, MP.Se.hr, List.foldr_cons, Int.mul_comm, Int.add_comm]
  congr 2; omega
theorem PValue_any {A A2 : Option Addr} {n c n2 c2 J J2 : Nat} {b : Bool} {X : Int} {l : List Int} {w : World} (h : Pd w w.heap.size A n c l J) (z : Zr w b A2 n2 c2 X J2) (hK2 : J + n * (J2 + 1) ≤ 900000) :
    Calls Tryz.prog 35 #[.slice A n c, .agg #[.bool b, .slice A2 n2 c2]] w (OutZ w (MP.Se.vl (co l) X) (J + n * (J2 + 1))) := by
  have hl := h.len
  have hbig := h.big
  replace h := h.pe
  rw [MP.Se.vl_co]
  have HR := Lib.hid (fun k hk => hr_drop l k hk X)
  have HL := Lib.hid hl; clear hl
  go_enter Tryz.func35, Tryz.ntmps35
  go_upto_region 2 with fail
  refine al3 fun v1 hb x_x x_r x_v => ?_
  replace x_x := Bx.of x_x; replace x_r := Bx.of x_r; replace x_v := Bx.of x_v
  obtain ⟨h, z⟩ := mv2 hb h z
  have q_x := x_x.al
  have q_r := x_r.al
  have q_v := x_v.al
  clear q_x q_r q_v
  have hr0 : VaR w b A2 n2 c2 X l J J2 A n c 0 v1 := by
    have e0 : MP.Se.hr (l.drop (l.length - 0)) X = 0 := by rw [Nat.sub_zero, List.drop_length]; rfl
    exact ⟨x_x, x_r, z, h, ⟨none, 0, 0, by rw [e0]; exact x_v, by rw [e0]; exact Zn.zero _ _⟩, hb⟩
  clear x_x x_r x_v z hb h
  go_wp2_with fail
  go_loopw [9] (fun kv wr => ∃ k : Nat, k ≤ n ∧ kv = .int .i64 (k : Int) ∧ VaR w b A2 n2 c2 X l J J2 A n c k wr) (fun kv _ => n - (intOf kv).toNat)
  case atStart => exact ⟨0, by omega, rfl, hr0⟩
  case round =>
    clear hr0
    obtain ⟨k, hk, rfl, x_x, x_r, z, h, ⟨A4, n4, c4, x_v, z4⟩, hb⟩ := hrel
    rcases (show k = n ∨ k < n by omega) with hkm | hkm
    · subst hkm
      have e0 : Hid (MP.Se.hr (l.drop (l.length - k)) X = MP.Se.hr l X) := Lib.hid (by rw [HL.out, Nat.sub_self]; rfl)
      rw [e0.out] at x_v z4
      have q_x := x_x.al
      have q_r := x_r.al
      have q_v := x_v.al
      go_wp2
      clear q_x q_r q_v
      refine x_r.st fun v2 hs hx => ?_
      obtain ⟨x_x, x_v, z, h, z4, hb⟩ := ms6 hs ⟨by omega, by omega, trivial, by omega, trivial, by omega⟩ x_x x_v z h z4 hb
      replace x_r := hx; clear hx hs
      have q_x := x_x.al
      have q_r := x_r.al
      have q_v := x_v.al
      skip
      refine bodyPost_ret (v := .agg #[.bool (ngB (MP.Se.hr l X)), .slice A4 n4 c4]) (by simp [results, Tryz.results35, go_sem, q_r]) rfl ?_
      exact ⟨_, _, _, rfl, z4, hb⟩
    · have hkl : k < l.length := by have := HL.out; omega
      have hst := HR.out k hkl
      have e1 : l[l.length - 1 - k]'(by omega) = l[n - 1 - k]'(by have := HL.out; omega) := by congr 1; rw [HL.out]
      rw [e1] at hst
      obtain ⟨d, o, b5, A5, n5, c5, rfl, hd, x_e, z5⟩ := h.ec (k := n - 1 - k) (by omega)
      obtain ⟨Y, hY⟩ : ∃ Y, l[n - 1 - k]'(by have := HL.out; omega) = Y := ⟨_, rfl⟩
      rw [hY] at hst z5
      obtain ⟨V, hV⟩ : ∃ V, MP.Se.hr (l.drop (l.length - k)) X = V := ⟨_, rfl⟩
      rw [hV] at hst x_v z4
      have HS := Lib.hid hst
      clear hst hV hY e1
      have hkJ : J + k * (J2 + 1) + (J2 + 1) = J + (k + 1) * (J2 + 1) := by rw [Nat.add_mul k 1]; omega
      have hkm2 : (k + 1) * (J2 + 1) ≤ n * (J2 + 1) := Nat.mul_le_mul_right (J2 + 1) hkm
      obtain ⟨K0, hK0⟩ : ∃ K0, J + k * (J2 + 1) = K0 := ⟨_, rfl⟩
      obtain ⟨K1, hK1⟩ : ∃ K1, J + (k + 1) * (J2 + 1) = K1 := ⟨_, rfl⟩
      have hJK : J ≤ K0 := by omega
      have hKK : K0 + J2 + 1 = K1 := by omega
      have hK9 : K1 ≤ 900000 := by omega
      rw [hK0] at z4
      have HK1 := Lib.hid hK1
      clear hkJ hkm2 hK0 hK1
      have hidx : IntKind.i64.wrap ((n : Int) - 1) = ((n - 1 : Nat) : Int) := by rw [i64_keep (by omega) (by omega)]; omega
      have hidx2 : IntKind.i64.wrap (((n - 1 : Nat) : Int) - k) = ((n - 1 - k : Nat) : Int) := by rw [i64_keep (by omega) (by omega)]; omega
      have hin : n - 1 - k < n := by omega
      obtain ⟨i, hi⟩ : ∃ i, n - 1 - k = i := ⟨_, rfl⟩
      rw [hi] at x_e hidx2 hin
      have HI := Lib.hid hi; clear hi
      have q_x := x_x.al
      have q_r := x_r.al
      have q_v := x_v.al
      have q_e := x_e.al
      go_upto_region 5 with fail
      go_region_law (first | (go_simp; go_at_call 91; (with_reducible refine (ZMul_any z4.drw.zr z.drw (K0 + J2) (by omega) (by omega)).mono ?_); rintro e v2 ⟨A6, n6, c6, rfl, z6, hb1⟩; replace hb1 := undrew hb1; obtain ⟨x_x, x_r, x_v, x_e, z, h, z4, z5, hb⟩ := mv9 hb1 x_x x_r x_v x_e z h z4 z5 hb; clear hb1; replace q_x := x_x.al; replace q_r := x_r.al; replace q_v := x_v.al; replace q_e := x_e.al) | (go_simp; go_at_call 90; (with_reducible refine (ZAdd_any z6.zr z5 K1 (by omega) (by omega) (by omega)).mono ?_); rintro e v3 ⟨A7, n7, c7, rfl, z7, hb1⟩; obtain ⟨x_x, x_r, x_v, x_e, z, h, z4, z5, z6⟩ := mv9 hb1 x_x x_r x_v x_e z h z4 z5 z6; replace hb := Mv.mv hb hb1; clear hb1; replace q_x := x_x.al; replace q_r := x_r.al; replace q_v := x_v.al; replace q_e := x_e.al))
      all_goals
        rw [HS.out] at z7
        try rw [HS.out]
        go_wp2
        refine ⟨⟨k + 1, by omega, by go_num, ?_⟩, by simp [intOf]; omega⟩
        clear q_x q_r q_v q_e
        refine x_v.st (F := VaR w b A2 n2 c2 X l J J2 (some ⟨d, o, none⟩) n c (k + 1)) fun v4 hs hx => ?_
        obtain ⟨x_x, x_r, x_e, z, h, z4, z5, z6, z7⟩ := ms9 hs ⟨by omega, by omega, by omega, trivial, by omega, trivial, trivial, trivial, trivial⟩ x_x x_r x_e z h z4 z5 z6 z7
        replace hb := Ms.ms hs (by omega) hb
        replace x_v := hx; clear hx hs
        have q_x := x_x.al
        have q_r := x_r.al
        have q_v := x_v.al
        have q_e := x_e.al
        rw [← HK1.out] at z7
        exact ⟨x_x, x_r, z, h, ⟨A7, n7, c7, x_v, z7⟩, hb⟩
end Go.Proofs.YtlaphcimlingaaaGreat
