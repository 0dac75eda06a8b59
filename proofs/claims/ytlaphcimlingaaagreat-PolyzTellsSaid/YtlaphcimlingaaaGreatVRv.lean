/-
  the document: Value.
-/
import Derived.Test.YtlaphcimlingaaaGreatVRt
namespace Go.Proofs.YtlaphcimlingaaaGreat
open Go.RowKit
open MP.Se (nf co)
set_option linter.unusedVariables false
set_option maxRecDepth 100000

/-- The sum of the first terms. -/
def vz (p : MP.Se) (x : Int) : Nat → Int
  | 0 => 0
  | i + 1 => vz p x i + p i * x ^ i
theorem vz_tl (p : MP.Se) (x : Int) : ∀ n, vz p x (n + 1) = p 0 + x * vz (MP.Se.tl p) x n
  | 0 => by simp [vz]
  | n + 1 => by
    rw [vz, vz_tl p x n, vz, Int.mul_add, ← Int.add_assoc, Int.pow_succ, Int.mul_comm (x ^ n) x, ← Int.mul_assoc, ← Int.mul_assoc, Int.mul_comm (p (n + 1)) x]; rfl
theorem vz_ev : ∀ (n : Nat) (p : MP.Se) (x : Int), vz p x n = MP.Se.ev n p x
  | 0, p, x => rfl
  | n + 1, p, x => by rw [vz_tl, vz_ev n]; rfl
/-- What the loop of the document's Value keeps. -/
def VzR (w : World) (b : Bool) (A : Option Addr) (n c : Nat) (X : Int) (l : List Int) (J J2 : Nat) (A5 : Option Addr) (n5 c5 gp i : Nat) (wr : World) : Prop :=
  Bx wr w.heap.size b A n c ∧ Bx wr (w.heap.size + 1) false none 0 0 ∧ Zr wr b A n c X J2 ∧ Pe wr w.heap.size A5 n5 c5 l J ∧ (∃ A' n' c', Bx wr (w.heap.size + 1 + 1) (ngB (vz (co l) X i)) A' n' c' ∧ Zn wr A' n' c' (vz (co l) X i) (J + 1 + i * (J2 + 1))) ∧ (∃ A' n' c', Bx wr gp (ngB (X ^ i)) A' n' c' ∧ Zn wr A' n' c' (X ^ i) (1 + i * J2)) ∧ Below w.heap.size w wr
set_option maxHeartbeats 2000000 in
theorem DoValue_any {A A2 : Option Addr} {n c n2 c2 J J2 : Nat} {b : Bool} {X : Int} {l : List Int} {w : World} (h : Pd w w.heap.size A n c l J) (z : Zr w b A2 n2 c2 X J2) (hK2 : J + 1 + n * (J2 + 1) ≤ 90000) (hn1 : n ≤ 1000) :
    Calls Tryz.prog 36 #[.slice A n c, .agg #[.bool b, .slice A2 n2 c2]] w (OutZ w (MP.Se.vl (co l) X) (J + 1 + n * (J2 + 1))) := by
  have hl := h.len
  have hle := MP.Se.nf_len l
  obtain ⟨M, hM⟩ : ∃ M, (nf l).length = M := ⟨_, rfl⟩
  have hMn : M ≤ n := by omega
  have HE : Hid (vz (co l) X M = MP.Se.vl (co l) X) := Lib.hid (by rw [vz_ev, MP.Se.vl_is (n := M)]; rw [← hM, ← MP.Se.co_nf l]; exact MP.Se.co_bd _)
  replace h := h.pe
  have HL := Lib.hid hl; have HM := Lib.hid hM
  clear hl hM hle
  go_enter Tryz.func36, Tryz.ntmps36
  go_upto_region 2 with fail
  refine al3 fun v1 hb x_x x_r x_v => ?_
  replace x_x := Bx.of x_x; replace x_r := Bx.of x_r; replace x_v := Bx.of x_v
  obtain ⟨h, z⟩ := mv2 hb h z
  have q_x := x_x.al
  have q_r := x_r.al
  have q_v := x_v.al
  go_wp2_with fail
  with_reducible refine (ROf_any 1 (by omega) (by omega)).mono ?_
  rintro e v2 ⟨A3, n3, c3, rfl, z3, hb1⟩
  obtain ⟨x_x, x_r, x_v, h, z, hb⟩ := mv6 hb1 x_x x_r x_v h z hb
  clear hb1
  replace q_x := x_x.al
  replace q_r := x_r.al
  replace q_v := x_v.al
  go_upto_region 3 with fail
  have l_x_p := x_x.lt
  have l_r_p := x_r.lt
  have l_v_p := x_v.lt
  have e_p : w.heap.size ≤ v2.heap.size := hb.size
  clear q_x q_r q_v
  refine al1 fun v3 hb1 x_p => ?_
  replace x_p := Bx.of x_p
  obtain ⟨x_x, x_r, x_v, h, z, z3, hb⟩ := mv7 hb1 x_x x_r x_v h z z3 hb
  clear hb1
  have q_x := x_x.al
  have q_r := x_r.al
  have q_v := x_v.al
  have q_p := x_p.al
  clear q_x q_r q_v q_p
  obtain ⟨gp, hgp⟩ : ∃ g, v2.heap.size = g := ⟨_, rfl⟩
  have hgl : w.heap.size + 1 + 1 < gp := by omega
  rw [hgp] at x_p ⊢
  have hr0 : VzR w b A2 n2 c2 X l J J2 A n c gp 0 v3 := ⟨x_x, x_r, z, h, ⟨none, 0, 0, x_v, Zn.zero _ _⟩, ⟨A3, n3, c3, by rw [Int.pow_zero]; exact x_p, by rw [Int.pow_zero]; exact z3.kto (by omega)⟩, hb⟩
  clear x_x x_r x_v x_p z3 z hb h hgp
  go_wp2_with fail
  go_loopw [7] (fun kv wr => ∃ i : Nat, i ≤ M ∧ kv = .int .i64 (i : Int) ∧ VzR w b A2 n2 c2 X l J J2 A n c gp i wr) (fun kv _ => M - (intOf kv).toNat)
  case atStart => exact ⟨0, by omega, rfl, hr0⟩
  case round =>
    clear hr0
    obtain ⟨i, hi, rfl, x_x, x_r, z, h, ⟨A4, n4, c4, x_v, z4⟩, ⟨A5, n5, c5, x_p, z5⟩, hb⟩ := hrel
    have hiJ : J + 1 + i * (J2 + 1) + (J2 + 1) = J + 1 + (i + 1) * (J2 + 1) := by rw [Nat.add_mul i 1]; omega
    have hiP : 1 + i * J2 + J2 = 1 + (i + 1) * J2 := by rw [Nat.add_mul i 1]; omega
    have hiV : 1 + i * J2 + J ≤ J + 1 + i * (J2 + 1) := by rw [Nat.mul_add]; omega
    have him : i * (J2 + 1) ≤ n * (J2 + 1) := Nat.mul_le_mul_right (J2 + 1) (by omega)
    obtain ⟨K0, hK0⟩ : ∃ K0, J + 1 + i * (J2 + 1) = K0 := ⟨_, rfl⟩
    obtain ⟨K1, hK1⟩ : ∃ K1, J + 1 + (i + 1) * (J2 + 1) = K1 := ⟨_, rfl⟩
    obtain ⟨P0, hP0⟩ : ∃ P0, 1 + i * J2 = P0 := ⟨_, rfl⟩
    obtain ⟨P1, hP1⟩ : ∃ P1, 1 + (i + 1) * J2 = P1 := ⟨_, rfl⟩
    have hkk : K0 + (J2 + 1) = K1 ∧ P0 + J2 = P1 ∧ P0 + J ≤ K0 ∧ K0 ≤ 90000 := by omega
    rw [hK0] at z4; rw [hP0] at z5
    have HK0 := Lib.hid hK0; have HK1 := Lib.hid hK1; have HP0 := Lib.hid hP0; have HP1 := Lib.hid hP1; have HIM := Lib.hid him
    clear hiJ hiP hiV him hK0 hK1 hP0 hP1
    have q_x := x_x.al
    have q_r := x_r.al
    have q_v := x_v.al
    have q_p := x_p.al
    go_wp2_with fail
    with_reducible refine (RDegree_any h.pd (by omega)).mono ?_
    rintro e v4 ⟨rfl, hb1⟩
    obtain ⟨x_x, x_r, x_v, x_p, z, h, z4, z5, hb⟩ := mv9 hb1 x_x x_r x_v x_p z h z4 z5 hb
    clear hb1
    replace q_x := x_x.al
    replace q_r := x_r.al
    replace q_v := x_v.al
    replace q_p := x_p.al
    rw [HM.out]
    rcases (show M = i ∨ i < M by omega) with him | him
    · subst him
      have hend : ¬ ((M : Int) ≤ (M : Int) - 1) := by omega
      rw [HE.out] at x_v z4
      clear q_x q_r q_v q_p
      have q_x := x_x.al
      have q_r := x_r.al
      have q_v := x_v.al
      have q_p := x_p.al
      have hK9 : K0 ≤ J + 1 + n * (J2 + 1) := by have := HK0.out; have := HIM.out; omega
      skip
      go_wp2_with fail
      with_reducible refine (RNormZ_any z4.zr (J + 1 + n * (J2 + 1)) hK9 (by omega)).mono ?_
      rintro e v5 ⟨A6, n6, c6, rfl, z6, hb1⟩
      obtain ⟨x_x, x_r, x_v, x_p, z, h, z4, z5, hb⟩ := mv9 hb1 x_x x_r x_v x_p z h z4 z5 hb
      clear hb1
      replace q_x := x_x.al
      replace q_r := x_r.al
      replace q_v := x_v.al
      replace q_p := x_p.al
      go_wp2
      clear q_x q_r q_v q_p
      refine x_r.st fun v6 hs hx => ?_
      obtain ⟨x_x, x_v, x_p, z, h, z4, z5, z6, hb⟩ := ms9 hs ⟨by omega, by omega, by omega, trivial, by omega, trivial, trivial, trivial, by omega⟩ x_x x_v x_p z h z4 z5 z6 hb
      replace x_r := hx; clear hx hs
      have q_x := x_x.al
      have q_r := x_r.al
      have q_v := x_v.al
      have q_p := x_p.al
      skip
      refine bodyPost_ret (v := .agg #[.bool (ngB (MP.Se.vl (co l) X)), .slice A6 n6 c6]) (by simp [results, Tryz.results36, go_sem, q_r]) rfl ?_
      exact ⟨_, _, _, rfl, z6, hb⟩
    · have hgo : (i : Int) ≤ (M : Int) - 1 := by omega
      have hin : i < n := by omega
      have hK1b : K1 ≤ 90000 := by have := Nat.mul_le_mul_right (J2 + 1) (show i + 1 ≤ n by omega); have := HK1.out; omega
      obtain ⟨d, o, b8, A8, n8, c8, rfl, hd, x_e, z8⟩ := h.ec hin
      rw [← MP.Se.co_at (show i < l.length by rw [HL.out]; exact hin)] at z8
      have HS : Hid (vz (co l) X i + (co l) i * X ^ i = vz (co l) X (i + 1)) := Lib.hid rfl
      have HT : Hid (X ^ i * X = X ^ (i + 1)) := Lib.hid (Int.pow_succ X i).symm
      obtain ⟨V2, hV2⟩ : ∃ V, vz (co l) X (i + 1) = V := ⟨_, rfl⟩
      obtain ⟨P2, hP2⟩ : ∃ P, X ^ (i + 1) = P := ⟨_, rfl⟩
      rw [hV2] at HS; rw [hP2] at HT
      have HV2 := Lib.hid hV2; have HP2 := Lib.hid hP2; clear hV2 hP2
      generalize vz (co l) X i = V at *
      generalize (co l) i = Y at *
      generalize hXi : X ^ i = U at *
      clear hXi
      have q_e := x_e.al
      go_upto_region 6 with fail
      go_region_law (first | (go_simp; go_at_call 74; (with_reducible refine (RMulZ_any z8.drw z5.drw.zr K0 (by omega) (by omega)).mono ?_); rintro e v5 ⟨A9, n9, c9, rfl, z9, hb1⟩; replace hb1 := undrew hb1; obtain ⟨x_x, x_r, x_v, x_p, x_e, z, h, z4, z5⟩ := mv9 hb1 x_x x_r x_v x_p x_e z h z4 z5; obtain ⟨z8, hb⟩ := mv2 hb1 z8 hb; clear hb1; replace q_x := x_x.al; replace q_r := x_r.al; replace q_v := x_v.al; replace q_p := x_p.al; replace q_e := x_e.al) | (go_simp; go_at_call 75; (with_reducible refine (RAddZ_any z4.zr z9.zr K1 (by omega) (by omega) (by omega)).mono ?_); rintro e v6 ⟨A10, n10, c10, rfl, z10, hb1⟩; obtain ⟨x_x, x_r, x_v, x_p, x_e, z, h, z4, z5⟩ := mv9 hb1 x_x x_r x_v x_p x_e z h z4 z5; obtain ⟨z8, z9, hb⟩ := mv3 hb1 z8 z9 hb; clear hb1; replace q_x := x_x.al; replace q_r := x_r.al; replace q_v := x_v.al; replace q_p := x_p.al; replace q_e := x_e.al; rw [HS.out] at z10 ⊢))
      all_goals
        go_upto_region 7 with fail
        clear q_x q_r q_v q_p q_e
        refine x_v.st fun v7 hs hx => ?_
        obtain ⟨x_x, x_r, x_p, x_e, z, h, z4, z5, z8⟩ := ms9 hs ⟨by omega, by omega, by omega, by omega, trivial, by omega, trivial, trivial, trivial⟩ x_x x_r x_p x_e z h z4 z5 z8
        obtain ⟨z9, z10, hb⟩ := ms3 hs ⟨trivial, trivial, by omega⟩ z9 z10 hb
        replace x_v := hx; clear hx hs
        have q_x := x_x.al
        have q_r := x_r.al
        have q_v := x_v.al
        have q_p := x_p.al
        have q_e := x_e.al
        clear z9
        go_wp2_with fail
        with_reducible refine (RMulZ_any z5.zr z P1 (by omega) (by omega)).mono ?_
        rintro e v8 ⟨A11, n11, c11, rfl, z11, hb1⟩
        obtain ⟨x_x, x_r, x_v, x_p, x_e, z, h, z4, z5⟩ := mv9 hb1 x_x x_r x_v x_p x_e z h z4 z5
        obtain ⟨z8, z10, hb⟩ := mv3 hb1 z8 z10 hb
        clear hb1
        replace q_x := x_x.al
        replace q_r := x_r.al
        replace q_v := x_v.al
        replace q_p := x_p.al
        replace q_e := x_e.al
        rw [HT.out] at z11 ⊢
        go_wp2_with fail
        refine ⟨⟨i + 1, by omega, by go_num, ?_⟩, by simp [intOf]; omega⟩
        clear q_x q_r q_v q_p q_e
        refine x_p.st (F := VzR w b A2 n2 c2 X l J J2 (some ⟨d, o, none⟩) n c gp (i + 1)) fun v9 hs hx => ?_
        obtain ⟨x_x, x_r, x_v, x_e, z, h, z4, z5, z8⟩ := ms9 hs ⟨by omega, by omega, by omega, by omega, trivial, by omega, trivial, trivial, trivial⟩ x_x x_r x_v x_e z h z4 z5 z8
        obtain ⟨z10, z11, hb⟩ := ms3 hs ⟨trivial, trivial, by omega⟩ z10 z11 hb
        replace x_p := hx; clear hx hs
        have q_x := x_x.al
        have q_r := x_r.al
        have q_v := x_v.al
        have q_p := x_p.al
        have q_e := x_e.al
        exact ⟨x_x, x_r, z, h, ⟨_, _, _, by rw [HV2.out]; exact x_v, by rw [HV2.out, HK1.out]; exact z10⟩, ⟨_, _, _, by rw [HP2.out]; exact x_p, by rw [HP2.out, HP1.out]; exact z11⟩, hb⟩
end Go.Proofs.YtlaphcimlingaaaGreat
