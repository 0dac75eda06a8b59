/-
  The document's answer: DivMod.
-/
import Derived.Test.YtcoidcbbdibnaaaRshr
namespace Go.Proofs.Ytcoidcbbdibnaaa
open Go.RowKit
set_option linter.unusedVariables false

/-- Digits of the quotient from place j on. -/
def DvInv (D : List Int) (V j : Nat) (Q : List Int) : Prop := Q.length = D.length ∧ Lim Hb Q ∧ vl Hb (Q.drop j) = vl Hb (D.drop j) / V
theorem DvInv.start {D Q : List Int} {V j : Nat} (h1 : Q.length = D.length) (h2 : Lim Hb Q) (hj : D.length ≤ j) : DvInv D V j Q :=
  ⟨h1, h2, by rw [List.drop_eq_nil_of_le (by omega), List.drop_eq_nil_of_le hj]; simp [vl]⟩
theorem DvInv.step {D Q : List Int} {V j X : Nat} (hV : 0 < V) (hD : Lim Hb D) (h : DvInv D V (j + 1) Q) (hj : j < D.length) (hX : D[j].toNat + Hb * (vl Hb (D.drop (j + 1)) % V) = X) :
    DvInv D V j (Q.set j ((X / V : Nat) : Int)) ∧ X % V = vl Hb (D.drop j) % V ∧ X / V < Hb ∧ X < Hb * V := by
  obtain ⟨h1, h2, h4⟩ := h
  have hx := dig_lt (hD.get hj)
  have hq := vl_drop_step Hb D j hj
  have h5 : D[j].toNat < Hb := by rw [Hb_eq]; omega
  generalize D[j].toNat = x at *
  generalize vl Hb (D.drop (j + 1)) = R at *
  have hm := Nat.mod_lt R hV
  have hxb : X < Hb * V := by
    have : Hb * (R % V + 1) ≤ Hb * V := Nat.mul_le_mul_left _ hm
    rw [Nat.mul_add, Nat.mul_one] at this
    omega
  have hdq := Nat.mod_add_div R V
  have htot : x + Hb * R = X + V * (Hb * (R / V)) := by
    have e5 : Hb * R = Hb * (R % V) + Hb * (V * (R / V)) := by rw [← Nat.mul_add, hdq]
    rw [e5, Nat.mul_left_comm Hb V]
    omega
  have hlt : X / V < Hb := (Nat.div_lt_iff_lt_mul hV).2 hxb
  refine ⟨⟨by simpa using h1, h2.set j ⟨Int.natCast_nonneg _, Int.ofNat_lt.2 hlt⟩, ?_⟩, ?_, hlt, hxb⟩
  · rw [vl_drop_step Hb _ j (by simpa [h1] using hj), List.getElem_set_self, Int.toNat_natCast, List.drop_set_of_lt (by omega), h4, hq, htot, Nat.add_mul_div_left _ _ hV]
  · rw [hq, htot, Nat.add_mul_mod_self_left]
def DvRel (w : World) (g : Nat) (D : List Int) (V j : Nat) (wr : World) : Prop := ∃ Q, DvInv D V j Q ∧ Bk wr g Q ∧ Below w.heap.size w wr
def DoRel (w : World) (g : Nat) (D : List Int) (V : Nat) (yv : Value) (j : Nat) (wr : World) : Prop := yv = .int .u64 ((vl Hb (D.drop j) % V : Nat) : Int) ∧ DvRel w g D V j wr

set_option maxHeartbeats 4000000 in
theorem RDivMod_one (A A2 : Option Addr) (n c n2 c2 : Nat) (l m : List Int) (w : World) (h : Rd w w.heap.size A n c l) (h2 : Rd w w.heap.size A2 n2 c2 m) (hn : n ≤ 1000000) (hn2 : n2 ≤ 1000000) (hM0 : (dg Hb (vl Wd m)).length = 1) :
    Calls Try.prog 47 #[.slice A n c, .slice A2 n2 c2] w (DmPost w (vl Wd l) (vl Wd m)) := by
  have Z1 := Lib.hid (Sm.of h hn)
  generalize hN : vl Wd l = N at *
  generalize hM : vl Wd m = M at *
  have HN := Lib.hid hN; clear hN
  have HM := Lib.hid hM; clear hM
  go_enter Try.func47, Try.ntmps47
  go_wp2_with fail
  refine (Digits_any _ _ _ _ _ h (by omega)).mono ?_
  rintro e w1 ⟨A1, n1, c1, rfl, g1, hb1⟩
  rw [HN.out] at g1
  have h2 := (h2.below hb1).more hb1.size
  go_wp2_with fail
  refine (Digits_any _ _ _ _ _ h2 (by omega)).mono ?_
  rintro e w2 ⟨A3, n3, c3, rfl, g3, hb2⟩
  rw [HM.out] at g3
  have g1 := (g1.below hb2).more hb2.size
  have hb := hb1.trans (hb2.mono hb1.size)
  have y1 := g1.smallH Z1.out
  have H := Lib.hid g1.len
  have hcap := g1.cap
  obtain rfl : 1 = n3 := by rw [← g3.len]; exact hM0.symm
  obtain ⟨b, of, rfl, hbb, hc⟩ := g3.at_ (by omega)
  have cy := hc 0 (by omega)
  have by_ := dig_lt ((Lim_dg Hb2 M).get (k := 0) (by omega))
  have hMy : M = (dg Hb M)[0].toNat := by
    have e := vl_dg Hb2 M
    rw [List.eq_getElem_of_length_eq_one _ hM0] at e
    simpa [vl] using e.symm
  generalize (dg Hb M)[0] = y at *
  have HMy := Lib.hid hMy
  have hD := Lim_dg Hb2 N
  have hDv := vl_dg Hb2 N
  have HDv := Lib.hid hDv
  clear Z1 hb1 hb2 hc hM0 hMy h h2 hDv
  generalize dg Hb N = D at *
  go_wp2_with (at_make; refine wp_make64 rfl _ _ rfl n1 _ _ rfl rfl (by omega) (by omega) (by omega) ?_; intro w3 hbk3 hb3)
  have hyp : 0 < y := by
    rcases Int.lt_or_eq_of_le by_.1 with h | h
    · exact h
    · exfalso
      have e := HMy.out
      rw [← h] at e
      have := g3.len
      rw [e] at this
      simp [dg_zero] at this
  have hVp : 0 < M := by rw [HMy.out]; omega
  clear g3
  go_loopw [10, 11] (fun yv iv wr => ∃ j : Nat, j ≤ n1 ∧ iv = .int .i64 ((j : Int) - 1) ∧ DoRel w2 w2.heap.size D M yv j wr) (fun _ iv _ => (intOf iv + 1).toNat)
  case atStart => exact ⟨n1, Nat.le_refl _, rfl, by rw [List.drop_eq_nil_of_le (Nat.le_of_eq H.out)]; simp [vl], _, DvInv.start (by simp [H.out]) (Lim_replicate Hb0 _) (Nat.le_of_eq H.out), hbk3, hb3⟩
  case round =>
    obtain ⟨j, hj, rfl, rfl, Q, j1, j2, j3⟩ := hrel
    clear hbk3 hb3
    have hQl : Q.length = n1 := j1.1.trans H.out
    rcases j with _ | j
    · obtain ⟨i1, i2, i4⟩ := j1
      rw [List.drop_zero, List.drop_zero, HDv.out] at i4
      rw [List.drop_zero, HDv.out]
      have hw3 := j2.whole (B := wr.heap.size) (n := n1) (c := n1) j2.lt hQl (Nat.le_refl _) (by omega) (Lim_Wd i2)
      have H4 := Lib.hid i4
      have hmod : N % M < M := Nat.mod_lt _ hVp
      have hML : M < 4294967296 := by rw [HMy.out]; omega
      have hbw := hb.trans (j3.mono hb.size)
      obtain ⟨rI, hrI⟩ : ∃ rI : Int, ((N % M : Nat) : Int) = rI := ⟨_, rfl⟩
      have hlr : Lim Hb [rI] := fun z hz => by simp at hz; subst hz; rw [Hb_eq]; omega
      have hvr : vl Hb [rI] = N % M := by simp [vl]; omega
      have HVR := Lib.hid hvr
      rw [hrI]
      clear i1 i4 j2 hQl hvr hrI hmod
      go_wp2_with fail
      refine (Limbs_any _ _ _ _ _ hw3 i2 (by omega)).mono ?_
      rintro e w6 ⟨A6, n6, c6, rfl, g6, hb6⟩
      rw [H4.out] at g6
      have hbw := hbw.trans (hb6.mono hbw.size)
      have bk7 := Bk.new w6 [rI]
      have r7 := bk7.whole (B := (w6.alloc (.cells ([rI].map (Value.int .u64)).toArray 29)).heap.size) (n := 1) (c := 1) bk7.lt rfl (Nat.le_refl _) (by omega) (Lim_Wd hlr)
      have hb7 : Below w6.heap.size w6 (w6.alloc (.cells ([rI].map (Value.int .u64)).toArray 29)) := (Below.refl _ _).alloc (Nat.le_refl _) _
      clear bk7
      go_wp2_with fail
      refine (Limbs_any _ _ _ _ _ r7 hlr (by omega)).mono ?_
      rintro e w8 ⟨A8, n8, c8, rfl, g8, hb8⟩
      rw [HVR.out] at g8
      have hb68 := hb7.trans (hb8.mono hb7.size)
      have g6 := (g6.below hb68).more hb68.size
      have hbw := hbw.trans (hb68.mono hbw.size)
      clear hb7 hb8 hb68 r7
      go_wp2
      go_ret3
      exact ⟨_, _, _, _, _, _, rfl, g6, g8, hbw⟩
    · have hjD : j < D.length := by have := H.out; omega
      have hjQ : j < Q.length := by omega
      obtain ⟨b1, of1, rfl, hbb1, hc1⟩ := (g1.below j3).at_ (by omega)
      have cx := hc1 j hjD
      have cyr : wr.cell? ⟨b, of, none⟩ = some (.int .u64 y) := (j3.cell (p := ⟨b, of + 0, none⟩) hbb).trans cy
      have bz := dig_lt (hD.get hjD)
      obtain ⟨X, hX⟩ : ∃ X, D[j].toNat + Hb * (vl Hb (D.drop (j + 1)) % M) = X := ⟨_, rfl⟩
      obtain ⟨st, s2, s3, s4⟩ := j1.step hVp hD hjD hX
      have hc2 := j2.cell j hjQ
      have hf2 := j2.frozen j
      have hb2 := j2.set j ((X / M : Nat) : Int)
      have R : DoRel w2 w2.heap.size D M (.int .u64 ((X % M : Nat) : Int)) j (wr.setCell ⟨w2.heap.size, j, none⟩ (.int .u64 ((X / M : Nat) : Int))) := ⟨by rw [s2], _, st, hb2, j3.setCell (Nat.le_refl _) _⟩
      have hmod : vl Hb (D.drop (j + 1)) % M < M := Nat.mod_lt _ hVp
      generalize vl Hb (D.drop (j + 1)) % M = u at *
      generalize D[j] = x at *
      have ej : ((j + 1 : Nat) : Int) - 1 = j := by omega
      have hML : M < 4294967296 := by rw [HMy.out]; omega
      have hyM : (M : Int) = y := by have := HMy.out; omega
      have hX2 : (u : Int) * 4294967296 + x = X := by rw [← hX, Hb_eq]; omega
      have hXb : (X : Int) < 18446744073709551616 := by omega
      have f2 : IntKind.u64.wrap ((X : Int).tdiv M) = ((X / M : Nat) : Int) := by
        rw [Int.tdiv_eq_ediv_of_nonneg (Int.natCast_nonneg _), ← Int.natCast_ediv, wrap_u64]
        have := Nat.div_le_self X M
        generalize X / M = d at *
        omega
      have f3 : (X : Int).tmod M = ((X % M : Nat) : Int) := by rw [Int.tmod_eq_emod_of_nonneg (Int.natCast_nonneg _), Int.natCast_emod]
      obtain ⟨xq, hxq⟩ : ∃ xq : Int, ((X / M : Nat) : Int) = xq := ⟨_, rfl⟩
      obtain ⟨xr, hxr⟩ : ∃ xr : Int, ((X % M : Nat) : Int) = xr := ⟨_, rfl⟩
      obtain ⟨XI, hXI⟩ : ∃ XI : Int, (X : Int) = XI := ⟨_, rfl⟩
      obtain ⟨uI, huI⟩ : ∃ uI : Int, (u : Int) = uI := ⟨_, rfl⟩
      have hu0 : 0 ≤ uI := by omega
      have hu1 : uI < 4294967296 := by omega
      have hX0 : 0 ≤ XI := by omega
      rw [hxq] at f2 R
      rw [hxr] at f3 R
      rw [hyM, hXI] at f2 f3
      rw [huI, hXI] at hX2
      rw [hXI] at hXb
      rw [huI]
      have f0 : IntKind.u64.wrap (uI * 4294967296) = uI * 4294967296 := by rw [wrap_u64]; omega
      have f1 : IntKind.u64.wrap (uI * 4294967296 + x) = XI := by rw [wrap_u64]; omega
      have hy1 : ¬ y = 0 := by omega
      have hx0 := bz.1; have hx1 := bz.2
      generalize Q[j] = z at *
      clear st s2 s3 s4 j1 j2 j3 hc1 hb2 hX hxq hxr hQl hjQ cy hyM hXI huI hmod hML g1 hD bz hX2
      go_wp2
      go_roundw
      case rel => exact ⟨j, by omega, rfl, R⟩
      case measure => simp [intOf]
end Go.Proofs.Ytcoidcbbdibnaaa
