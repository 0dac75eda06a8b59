/-
  the document: Lead, Power, term.
-/
import Derived.Test.YtlaphcimlingaaaGreatVRl
namespace Go.Proofs.YtlaphcimlingaaaGreat
open Go.RowKit
open MP.Se (nf co)
set_option linter.unusedVariables false
set_option maxRecDepth 100000

theorem DoLead_any {A : Option Addr} {n c J M : Nat} {l : List Int} {w : World} (h : Pd w w.heap.size A n c l J) (hM : (nf l).length = M + 1) (hJ : J ≤ 100000) :
    Calls Tryz.prog 101 #[.slice A n c] w (OutZ w ((co l) M) J) := by
  have hb := Below.refl w.heap.size w
  have HM : Hid (((nf l).length : Int) - 1 = (M : Int)) := Lib.hid (by omega)
  replace h := h.pe
  clear hM
  go_enter Tryz.func101, Tryz.ntmps101
  go_upto_region 1 with fail
  refine al1 fun v1 hb1 x_r => ?_
  replace x_r := Bx.of x_r
  obtain ⟨h, hb⟩ := mv2 hb1 h hb
  clear hb1
  have q_r := x_r.al
  go_wp2_with fail
  with_reducible refine (RDegree_any h.pd hJ).mono ?_
  rintro e v1 ⟨rfl, hb1⟩
  obtain ⟨x_r, h, hb⟩ := mv3 hb1 x_r h hb
  clear hb1
  replace q_r := x_r.al
  rw [HM.out]
  go_wp2_with fail
  with_reducible refine (RAt_any h.pd M (by omega)).mono ?_
  rintro e v2 ⟨A3, n3, c3, rfl, z3, hb1⟩
  obtain ⟨x_r, h, hb⟩ := mv3 hb1 x_r h hb
  clear hb1
  replace q_r := x_r.al
  go_wp2
  clear q_r
  refine x_r.st fun v3 hs hx => ?_
  obtain ⟨h, z3, hb⟩ := ms3 hs ⟨by omega, trivial, by omega⟩ h z3 hb
  replace x_r := hx; clear hx hs
  have q_r := x_r.al
  skip
  refine bodyPost_ret (v := .agg #[.bool (ngB ((co l) M)), .slice A3 n3 c3]) (by simp [results, Tryz.results101, go_sem, q_r]) rfl ?_
  exact ⟨_, _, _, rfl, z3, hb⟩
/-- What the loop of Power keeps. -/
def PwL (w : World) (b : Bool) (A : Option Addr) (n c : Nat) (X : Int) (J gv i : Nat) (wr : World) : Prop :=
  Bx wr w.heap.size b A n c ∧ Bx wr (w.heap.size + 1) false none 0 0 ∧ Zr wr b A n c X J ∧ (∃ A' n' c', Bx wr gv (ngB (X ^ i)) A' n' c' ∧ Zn wr A' n' c' (X ^ i) (1 + i * J)) ∧ Below w.heap.size w wr
theorem DoPower_any {A : Option Addr} {n c J m : Nat} {b : Bool} {X : Int} {w : World} (z : Zr w b A n c X J) (hm : m ≤ 1000) (hK : 1 + m * J ≤ 90000) :
    Calls Tryz.prog 100 #[.agg #[.bool b, .slice A n c], .int .i64 (m : Int)] w (OutZ w (X ^ m) (1 + m * J)) := by
  go_enter Tryz.func100, Tryz.ntmps100
  go_upto_region 1 with fail
  refine al2 fun v1 hb x_x x_r => ?_
  replace x_x := Bx.of x_x; replace x_r := Bx.of x_r
  replace z := Mv.mv z hb
  have q_x := x_x.al
  have q_r := x_r.al
  go_wp2_with fail
  with_reducible refine (ROf_any 1 (by omega) (by omega)).mono ?_
  rintro e v2 ⟨A3, n3, c3, rfl, z3, hb1⟩
  obtain ⟨x_x, x_r, z, hb⟩ := mv4 hb1 x_x x_r z hb
  clear hb1
  replace q_x := x_x.al
  replace q_r := x_r.al
  go_upto_region 2 with fail
  have l_x_v := x_x.lt
  have l_r_v := x_r.lt
  have e_v : w.heap.size ≤ v2.heap.size := hb.size
  clear q_x q_r
  refine al1 fun v3 hb1 x_v => ?_
  replace x_v := Bx.of x_v
  obtain ⟨x_x, x_r, z, z3, hb⟩ := mv5 hb1 x_x x_r z z3 hb
  clear hb1
  have q_x := x_x.al
  have q_r := x_r.al
  have q_v := x_v.al
  clear q_x q_r q_v
  obtain ⟨gv, hgv⟩ : ∃ g, v2.heap.size = g := ⟨_, rfl⟩
  have hgl : w.heap.size + 1 < gv := by omega
  rw [hgv] at x_v ⊢
  have hr0 : PwL w b A n c X J gv 0 v3 := ⟨x_x, x_r, z, ⟨A3, n3, c3, by rw [Int.pow_zero]; exact x_v, by rw [Int.pow_zero]; exact z3.kto (by omega)⟩, hb⟩
  clear x_x x_r x_v z3 z hb hgv
  go_wp2_with fail
  go_loopw [6] (fun kv wr => ∃ i : Nat, i ≤ m ∧ kv = .int .i64 (i : Int) ∧ PwL w b A n c X J gv i wr) (fun kv _ => m - (intOf kv).toNat)
  case atStart => exact ⟨0, by omega, rfl, hr0⟩
  case round =>
    clear hr0
    obtain ⟨i, hi, rfl, x_x, x_r, z, ⟨A4, n4, c4, x_v, z4⟩, hb⟩ := hrel
    have q_x := x_x.al
    have q_r := x_r.al
    have q_v := x_v.al
    rcases (show m = i ∨ i < m by omega) with him | him
    · subst him
      go_wp2
      clear q_x q_r q_v
      refine x_r.st fun v4 hs hx => ?_
      obtain ⟨x_x, x_v, z, z4, hb⟩ := ms5 hs ⟨by omega, by omega, trivial, trivial, by omega⟩ x_x x_v z z4 hb
      replace x_r := hx; clear hx hs
      have q_x := x_x.al
      have q_r := x_r.al
      have q_v := x_v.al
      skip
      refine bodyPost_ret (v := .agg #[.bool (ngB (X ^ m)), .slice A4 n4 c4]) (by simp [results, Tryz.results100, go_sem, q_r]) rfl ?_
      exact ⟨_, _, _, rfl, z4, hb⟩
    · have hT : Hid (X ^ i * X = X ^ (i + 1)) := Lib.hid (Int.pow_succ X i).symm
      have hk : 1 + i * J + J = 1 + (i + 1) * J := by rw [Nat.add_mul i 1]; omega
      have him2 : (i + 1) * J ≤ m * J := Nat.mul_le_mul_right J (by omega)
      obtain ⟨K0, hK0⟩ : ∃ K, 1 + i * J = K := ⟨_, rfl⟩
      obtain ⟨K1, hK1⟩ : ∃ K, 1 + (i + 1) * J = K := ⟨_, rfl⟩
      have hkk : K0 + J = K1 ∧ K1 ≤ 90000 := by omega
      rw [hK0] at z4
      have HK1 := Lib.hid hK1
      clear hk him2 hK0 hK1
      obtain ⟨P2, hP2⟩ : ∃ P, X ^ (i + 1) = P := ⟨_, rfl⟩
      rw [hP2] at hT
      have HP2 := Lib.hid hP2; clear hP2
      generalize hXi : X ^ i = U at *
      clear hXi
      go_wp2_with fail
      with_reducible refine (RMulZ_any z4.zr z K1 (by omega) (by omega)).mono ?_
      rintro e v4 ⟨A5, n5, c5, rfl, z5, hb1⟩
      obtain ⟨x_x, x_r, x_v, z, z4, hb⟩ := mv6 hb1 x_x x_r x_v z z4 hb
      clear hb1
      replace q_x := x_x.al
      replace q_r := x_r.al
      replace q_v := x_v.al
      rw [hT.out] at z5 ⊢
      go_wp2_with fail
      refine ⟨⟨i + 1, by omega, by go_num, ?_⟩, by simp [intOf]; omega⟩
      clear q_x q_r q_v
      refine x_v.st (F := PwL w b A n c X J gv (i + 1)) fun v5 hs hx => ?_
      obtain ⟨x_x, x_r, z, z4, z5, hb⟩ := ms6 hs ⟨by omega, by omega, trivial, trivial, trivial, by omega⟩ x_x x_r z z4 z5 hb
      replace x_v := hx; clear hx hs
      have q_x := x_x.al
      have q_r := x_r.al
      have q_v := x_v.al
      exact ⟨x_x, x_r, z, ⟨_, _, _, by rw [HP2.out]; exact x_v, by rw [HP2.out, HK1.out]; exact z5⟩, hb⟩
theorem co_term (s : Nat) (X : Int) : co (List.replicate s 0 ++ [X]) = MP.Se.mo s X := by
  rw [MP.Se.co_snoc', MP.Se.co_rep, MP.Se.zero_add, List.length_replicate]
theorem DoTerm_any {A : Option Addr} {n c J s : Nat} {X : Int} {w : World} (z : Zn w A n c X J) (hs : s ≤ 900) :
    Calls Tryz.prog 147 #[.agg #[.bool (ngB X), .slice A n c], .int .i64 (s : Int)] w fun e w' => ∃ A' c', e = .returned (.slice A' (s + 1) c') ∧ Pn w' A' (s + 1) c' (List.replicate s 0 ++ [X]) J ∧ Below w.heap.size w w' := by
  have hb := Below.refl w.heap.size w
  go_enter Tryz.func147, Tryz.ntmps147
  go_upto_region 1 with fail
  refine al1 fun v1 hb x_x => ?_
  replace x_x := Bx.of x_x
  replace z := Mv.mv z hb
  have q_x := x_x.al
  clear q_x
  have hx1 := hb.size
  have HXX := Lib.hid x_x; have HZ := Lib.hid z; have HB := Lib.hid hb
  have hlt := x_x.lt
  clear x_x z hb
  go_upto_region 2 with fail
  refine al1 fun v2 hv x_o => ?_
  have gz : Gz v2 v1.heap.size J (.slice (some ⟨v1.heap.size, 0, none⟩) 0 0) (List.replicate 0 0) := gz_new x_o (Nat.le_refl _)
  clear x_o
  go_wp2_with fail
  go_loopw [5, 6] (fun sv kv wr => ∃ (i : Nat) (t : Value), t = sv ∧ i ≤ s ∧ kv = .int .i64 (i : Int) ∧ Gz wr v1.heap.size J t (List.replicate i 0) ∧ Below v1.heap.size v1 wr) (fun _ kv _ => s - (intOf kv).toNat)
  case atStart => exact ⟨0, _, rfl, by omega, rfl, gz, hv⟩
  case round =>
    clear gz hv
    obtain ⟨i, sv, rfl, hi, rfl, gz, hv⟩ := hrel
    have hln : (List.replicate i (0 : Int)).length ≤ 1000 := by simp; omega
    have hss := hv.size
    have zz : Zn wr none 0 0 0 J := Zn.zero _ _
    have hn0 : (Value.bool (ngB 0)) = .bool false := rfl
    rcases (show s = i ∨ i < s by omega) with him | him
    · subst him
      have x_x := HXX.out.keep hv; have zx := HZ.out.keep hv
      have q_x := x_x.al
      have hX : Hid ((List.replicate s (0 : Int) ++ [X]).length = s + 1) := Lib.hid (by simp)
      generalize hmm : List.replicate s (0 : Int) = m at *
      have HMR := Lib.hid hmm; clear hmm
      go_wp2_with (at_builtin; refine wp_pushG (V := wr) rfl _ _ rfl rfl gz hln hss zx rfl ?_; intro s8 w8 hpu)
      have hgz := hpu.1
      obtain ⟨A5, c5, rfl, p⟩ := hgz.pn (by rw [hX.out]; omega)
      rw [hX.out] at p
      rw [hX.out]
      have hb2 := Gr.below hv hss gz hpu.2.1 (Nat.le_refl _)
      clear hgz gz hpu
      go_ret
      exact ⟨_, _, rfl, by rw [HMR.out]; exact p, bthen HB.out hb2⟩
    · have htk : Hid (List.replicate i (0 : Int) ++ [0] = List.replicate (i + 1) 0) := Lib.hid (List.replicate_succ' ).symm
      generalize List.replicate i (0 : Int) = m at *
      go_wp2_with (at_builtin; refine wp_pushG (V := wr) (X := 0) rfl _ _ rfl rfl gz hln hss zz rfl ?_; intro s8 w8 hpu)
      have hgz := hpu.1
      rw [htk.out] at hgz
      have hb2 := Gr.below hv hss gz hpu.2.1 (Nat.le_refl _)
      clear gz hpu htk
      exact ⟨⟨i + 1, _, rfl, by omega, by go_num, hgz, hb2⟩, by simp [intOf]; omega⟩
end Go.Proofs.YtlaphcimlingaaaGreat
