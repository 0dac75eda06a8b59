/-
  The document's answer for zed: DivMod by 0, and its arithmetic.
-/
import Derived.Test.YtlaphcimlingaaaGreatPe
import Derived.Test.YtlaphcimlingaaaGreatPc
namespace Go.Proofs.YtlaphcimlingaaaGreat
section
set_option maxRecDepth 100000
open Go.RowKit
set_option linter.unusedVariables false

/-- Digits of the quotient from place j on. -/
def DvInv (D : List Int) (V j : Nat) (Q : List Int) : Prop := Q.length = D.length ∧ Lim Hb Q ∧ vl Hb (Q.drop j) = vl Hb (D.drop j) / V
theorem DvInv.start {D Q : List Int} {V j : Nat} (h1 : Q.length = D.length) (h2 : Lim Hb Q) (hj : D.length ≤ j) : DvInv D V j Q :=
  ⟨h1, h2, by rw [List.drop_eq_nil_of_le (by omega), List.drop_eq_nil_of_le hj]; simp [vl]⟩
theorem DvInv.step {D Q : List Int} {V j X : Nat} (hV : 0 < V) (hD : Lim Hb D) (h : DvInv D V (j + 1) Q) (hj : j < D.length) (hX : D[j].toNat + Hb * (vl Hb (D.drop (j + 1)) % V) = X) :
    DvInv D V j (Q.set j ((X / V : Nat) : Int)) ∧ X % V = vl Hb (D.drop j) % V ∧ X / V < Hb ∧ X < Hb * V := by
  obtain ⟨h1, h2, h4⟩ := h
  have hx := dig_lt (hD.get hj)
  have hq := vl_drop_step Hb D j hj
  have h5 : D[j].toNat < Hb := by rw [Hb_eq]; omega
  generalize D[j].toNat = x at *
  generalize vl Hb (D.drop (j + 1)) = R at *
  have hm := Nat.mod_lt R hV
  have hxb : X < Hb * V := by
    have : Hb * (R % V + 1) ≤ Hb * V := Nat.mul_le_mul_left _ hm
    rw [Nat.mul_add, Nat.mul_one] at this
    omega
  have hdq := Nat.mod_add_div R V
  have htot : x + Hb * R = X + V * (Hb * (R / V)) := by
    have e5 : Hb * R = Hb * (R % V) + Hb * (V * (R / V)) := by rw [← Nat.mul_add, hdq]
    rw [e5, Nat.mul_left_comm Hb V]
    omega
  have hlt : X / V < Hb := (Nat.div_lt_iff_lt_mul hV).2 hxb
  refine ⟨⟨by simpa using h1, h2.set j ⟨Int.natCast_nonneg _, Int.ofNat_lt.2 hlt⟩, ?_⟩, ?_, hlt, hxb⟩
  · rw [vl_drop_step Hb _ j (by simpa [h1] using hj), List.getElem_set_self, Int.toNat_natCast, List.drop_set_of_lt (by omega), h4, hq, htot, Nat.add_mul_div_left _ _ hV]
  · rw [hq, htot, Nat.add_mul_mod_self_left]
def DvRel (w : World) (g : Nat) (D : List Int) (V j : Nat) (wr : World) : Prop := ∃ Q, DvInv D V j Q ∧ Bk wr g Q ∧ Below w.heap.size w wr
def DoRel (w : World) (g : Nat) (D : List Int) (V : Nat) (yv : Value) (j : Nat) (wr : World) : Prop := yv = .int .u64 ((vl Hb (D.drop j) % V : Nat) : Int) ∧ DvRel w g D V j wr

set_option maxHeartbeats 4000000 in
theorem RDivMod_one (A A2 : Option Addr) (n c n2 c2 : Nat) (l m : List Int) (w : World) (h : Rd w w.heap.size A n c l) (h2 : Rd w w.heap.size A2 n2 c2 m) (hn : n ≤ 1000000) (hn2 : n2 ≤ 1000000) (hM0 : (dg Hb (vl Wd m)).length = 1) :
    Calls Tryz.prog 152 #[.slice A n c, .slice A2 n2 c2] w (DmPost w (vl Wd l) (vl Wd m)) := by
  have Z1 := Lib.hid (Sm.of h hn)
  generalize hN : vl Wd l = N at *
  generalize hM : vl Wd m = M at *
  have HN := Lib.hid hN; clear hN
  have HM := Lib.hid hM; clear hM
  go_enter Tryz.func152, Tryz.ntmps152
  go_wp2_with fail
  refine (Digits_any _ _ _ _ _ h (by omega)).mono ?_
  rintro e w1 ⟨A1, n1, c1, rfl, g1, hb1⟩
  rw [HN.out] at g1
  have h2 := (h2.below hb1).more hb1.size
  go_wp2_with fail
  refine (Digits_any _ _ _ _ _ h2 (by omega)).mono ?_
  rintro e w2 ⟨A3, n3, c3, rfl, g3, hb2⟩
  rw [HM.out] at g3
  have g1 := (g1.below hb2).more hb2.size
  have hb := hb1.trans (hb2.mono hb1.size)
  have y1 := g1.smallH Z1.out
  have H := Lib.hid g1.len
  have hcap := g1.cap
  obtain rfl : 1 = n3 := by rw [← g3.len]; exact hM0.symm
  obtain ⟨b, of, rfl, hbb, hc⟩ := g3.at_ (by omega)
  have cy := hc 0 (by omega)
  have by_ := dig_lt ((Lim_dg Hb2 M).get (k := 0) (by omega))
  have hMy : M = (dg Hb M)[0].toNat := by
    have e := vl_dg Hb2 M
    rw [List.eq_getElem_of_length_eq_one _ hM0] at e
    simpa [vl] using e.symm
  generalize (dg Hb M)[0] = y at *
  have HMy := Lib.hid hMy
  have hD := Lim_dg Hb2 N
  have hDv := vl_dg Hb2 N
  have HDv := Lib.hid hDv
  clear Z1 hb1 hb2 hc hM0 hMy h h2 hDv
  generalize dg Hb N = D at *
  go_wp2_with (at_make; refine wp_make64 rfl _ _ rfl n1 _ _ rfl rfl (by omega) (by omega) (by omega) ?_; intro w3 hbk3 hb3)
  have hyp : 0 < y := by
    rcases Int.lt_or_eq_of_le by_.1 with h | h
    · exact h
    · exfalso
      have e := HMy.out
      rw [← h] at e
      have := g3.len
      rw [e] at this
      simp [dg_zero] at this
  have hVp : 0 < M := by rw [HMy.out]; omega
  clear g3
  go_loopw [10, 11] (fun yv iv wr => ∃ j : Nat, j ≤ n1 ∧ iv = .int .i64 ((j : Int) - 1) ∧ DoRel w2 w2.heap.size D M yv j wr) (fun _ iv _ => (intOf iv + 1).toNat)
  case atStart => exact ⟨n1, Nat.le_refl _, rfl, by rw [List.drop_eq_nil_of_le (Nat.le_of_eq H.out)]; simp [vl], _, DvInv.start (by simp [H.out]) (Lim_replicate Hb0 _) (Nat.le_of_eq H.out), hbk3, hb3⟩
  case round =>
    obtain ⟨j, hj, rfl, rfl, Q, j1, j2, j3⟩ := hrel
    clear hbk3 hb3
    have hQl : Q.length = n1 := j1.1.trans H.out
    rcases j with _ | j
    · obtain ⟨i1, i2, i4⟩ := j1
      rw [List.drop_zero, List.drop_zero, HDv.out] at i4
      rw [List.drop_zero, HDv.out]
      have hw3 := j2.whole (B := wr.heap.size) (n := n1) (c := n1) j2.lt hQl (Nat.le_refl _) (by omega) (Lim_Wd i2)
      have H4 := Lib.hid i4
      have hmod : N % M < M := Nat.mod_lt _ hVp
      have hML : M < 4294967296 := by rw [HMy.out]; omega
      have hbw := hb.trans (j3.mono hb.size)
      obtain ⟨rI, hrI⟩ : ∃ rI : Int, ((N % M : Nat) : Int) = rI := ⟨_, rfl⟩
      have hlr : Lim Hb [rI] := fun z hz => by simp at hz; subst hz; rw [Hb_eq]; omega
      have hvr : vl Hb [rI] = N % M := by simp [vl]; omega
      have HVR := Lib.hid hvr
      rw [hrI]
      clear i1 i4 j2 hQl hvr hrI hmod
      go_wp2_with fail
      refine (Limbs_any _ _ _ _ _ hw3 i2 (by omega)).mono ?_
      rintro e w6 ⟨A6, n6, c6, rfl, g6, hb6⟩
      rw [H4.out] at g6
      have hbw := hbw.trans (hb6.mono hbw.size)
      have bk7 := Bk.new w6 [rI]
      have r7 := bk7.whole (B := (w6.alloc (.cells ([rI].map (Value.int .u64)).toArray 74)).heap.size) (n := 1) (c := 1) bk7.lt rfl (Nat.le_refl _) (by omega) (Lim_Wd hlr)
      have hb7 : Below w6.heap.size w6 (w6.alloc (.cells ([rI].map (Value.int .u64)).toArray 74)) := (Below.refl _ _).alloc (Nat.le_refl _) _
      clear bk7
      go_wp2_with fail
      refine (Limbs_any _ _ _ _ _ r7 hlr (by omega)).mono ?_
      rintro e w8 ⟨A8, n8, c8, rfl, g8, hb8⟩
      rw [HVR.out] at g8
      have hb68 := hb7.trans (hb8.mono hb7.size)
      have g6 := (g6.below hb68).more hb68.size
      have hbw := hbw.trans (hb68.mono hbw.size)
      clear hb7 hb8 hb68 r7
      go_wp2
      go_ret3
      exact ⟨_, _, _, _, _, _, rfl, g6, g8, hbw⟩
    · have hjD : j < D.length := by have := H.out; omega
      have hjQ : j < Q.length := by omega
      obtain ⟨b1, of1, rfl, hbb1, hc1⟩ := (g1.below j3).at_ (by omega)
      have cx := hc1 j hjD
      have cyr : wr.cell? ⟨b, of, none⟩ = some (.int .u64 y) := (j3.cell (p := ⟨b, of + 0, none⟩) hbb).trans cy
      have bz := dig_lt (hD.get hjD)
      obtain ⟨X, hX⟩ : ∃ X, D[j].toNat + Hb * (vl Hb (D.drop (j + 1)) % M) = X := ⟨_, rfl⟩
      obtain ⟨st, s2, s3, s4⟩ := j1.step hVp hD hjD hX
      have hc2 := j2.cell j hjQ
      have hf2 := j2.frozen j
      have hb2 := j2.set j ((X / M : Nat) : Int)
      have R : DoRel w2 w2.heap.size D M (.int .u64 ((X % M : Nat) : Int)) j (wr.setCell ⟨w2.heap.size, j, none⟩ (.int .u64 ((X / M : Nat) : Int))) := ⟨by rw [s2], _, st, hb2, j3.setCell (Nat.le_refl _) _⟩
      have hmod : vl Hb (D.drop (j + 1)) % M < M := Nat.mod_lt _ hVp
      generalize vl Hb (D.drop (j + 1)) % M = u at *
      generalize D[j] = x at *
      have ej : ((j + 1 : Nat) : Int) - 1 = j := by omega
      have hML : M < 4294967296 := by rw [HMy.out]; omega
      have hyM : (M : Int) = y := by have := HMy.out; omega
      have hX2 : (u : Int) * 4294967296 + x = X := by rw [← hX, Hb_eq]; omega
      have hXb : (X : Int) < 18446744073709551616 := by omega
      have f2 : IntKind.u64.wrap ((X : Int).tdiv M) = ((X / M : Nat) : Int) := by
        rw [Int.tdiv_eq_ediv_of_nonneg (Int.natCast_nonneg _), ← Int.natCast_ediv, wrap_u64]
        have := Nat.div_le_self X M
        generalize X / M = d at *
        omega
      have f3 : (X : Int).tmod M = ((X % M : Nat) : Int) := by rw [Int.tmod_eq_emod_of_nonneg (Int.natCast_nonneg _), Int.natCast_emod]
      obtain ⟨xq, hxq⟩ : ∃ xq : Int, ((X / M : Nat) : Int) = xq := ⟨_, rfl⟩
      obtain ⟨xr, hxr⟩ : ∃ xr : Int, ((X % M : Nat) : Int) = xr := ⟨_, rfl⟩
      obtain ⟨XI, hXI⟩ : ∃ XI : Int, (X : Int) = XI := ⟨_, rfl⟩
      obtain ⟨uI, huI⟩ : ∃ uI : Int, (u : Int) = uI := ⟨_, rfl⟩
      have hu0 : 0 ≤ uI := by omega
      have hu1 : uI < 4294967296 := by omega
      have hX0 : 0 ≤ XI := by omega
      rw [hxq] at f2 R
      rw [hxr] at f3 R
      rw [hyM, hXI] at f2 f3
      rw [huI, hXI] at hX2
      rw [hXI] at hXb
      rw [huI]
      have f0 : IntKind.u64.wrap (uI * 4294967296) = uI * 4294967296 := by rw [wrap_u64]; omega
      have f1 : IntKind.u64.wrap (uI * 4294967296 + x) = XI := by rw [wrap_u64]; omega
      have hy1 : ¬ y = 0 := by omega
      have hx0 := bz.1; have hx1 := bz.2
      generalize Q[j] = z at *
      clear st s2 s3 s4 j1 j2 j3 hc1 hb2 hX hxq hxr hQl hjQ cy hyM hXI huI hmod hML g1 hD bz hX2
      go_wp2
      go_roundw
      case rel => exact ⟨j, by omega, rfl, R⟩
      case measure => simp [intOf]
end
end Go.Proofs.YtlaphcimlingaaaGreat
namespace Go.Proofs.YtlaphcimlingaaaGreat
section
set_option maxRecDepth 100000
open Go.RowKit
set_option linter.unusedVariables false

set_option maxHeartbeats 1000000 in
theorem RDivMod_zero (A A2 : Option Addr) (n c n2 c2 : Nat) (l m : List Int) (w : World) (h : Rd w w.heap.size A n c l) (h2 : Rd w w.heap.size A2 n2 c2 m) (hn : n ≤ 1000000) (hn2 : n2 ≤ 1000000) (hM0 : vl Wd m = 0) :
    Calls Tryz.prog 152 #[.slice A n c, .slice A2 n2 c2] w fun e w' => e = .returned (.tuple #[.slice none 0 0, .slice none 0 0, .bool false]) ∧ Below w.heap.size w w' := by
  have HM := Lib.hid hM0; clear hM0
  go_enter Tryz.func152, Tryz.ntmps152
  go_wp2_with fail
  refine (Digits_any _ _ _ _ _ h (by omega)).mono ?_
  rintro e w1 ⟨A1, n1, c1, rfl, g1, hb1⟩
  have h2 := (h2.below hb1).more hb1.size
  go_wp2_with fail
  refine (Digits_any _ _ _ _ _ h2 (by omega)).mono ?_
  rintro e w2 ⟨A3, n3, c3, rfl, g3, hb2⟩
  rw [HM.out, dg_zero] at g3
  obtain rfl : 0 = n3 := g3.len
  have hb := hb1.trans (hb2.mono hb1.size)
  clear hb1 hb2 g1 g3 h h2
  go_wp2
  go_ret3
  exact ⟨rfl, hb⟩

/-- Reading something stays if another block is written. -/
theorem Rd.far {w : World} {B n c g j : Nat} {A : Option Addr} {l : List Int} (h : Rd w B A n c l) (hA : ∀ a, A = some a → a.block ≠ g) (v : Value) : Rd (w.setCell ⟨g, j, none⟩ v) B A n c l := by
  refine ⟨h.len, h.cap, h.big, h.lim, fun hn => ?_⟩
  obtain ⟨b, off, rfl, hb, hc⟩ := h.at_ hn
  refine ⟨b, off, rfl, hb, fun k hk => ?_⟩
  rw [← hc k hk]
  exact World.cell?_setCell_far _ _ _ _ (fun e => hA _ rfl e.symm)
/-- One halving: is the middle too much? -/
theorem half_cmp {M X k : Nat} (hM : 0 < M) : cmpI (M * k) X ≤ 0 ↔ k ≤ X / M := by
  rw [Nat.le_div_iff_mul_le hM, Nat.mul_comm k M]
  unfold cmpI
  split
  · omega
  · split <;> omega
end
end Go.Proofs.YtlaphcimlingaaaGreat
namespace Go.Proofs.YtlaphcimlingaaaGreat
section
set_option maxRecDepth 100000
open Go.RowKit
set_option linter.unusedVariables false

/-- The rest, read from other blocks than the quotient's, and the quotient so far. -/
def DmRel (w : World) (g : Nat) (D : List Int) (M : Nat) (rv : Value) (j : Nat) (wr : World) : Prop :=
  ∃ A n c, rv = .slice A n c ∧ Rd wr wr.heap.size A n c (dg Hb (vl Hb (D.drop j) % M)) ∧ n ≤ 4000000 ∧ DvRel w g D M j wr

set_option maxHeartbeats 4000000 in
theorem RDivMod_many (A A2 : Option Addr) (n c n2 c2 : Nat) (l m : List Int) (w : World) (h : Rd w w.heap.size A n c l) (h2 : Rd w w.heap.size A2 n2 c2 m) (hn : n ≤ 1000000) (hn2 : n2 ≤ 1000000) (hM0 : 1 < (dg Hb (vl Wd m)).length) :
    Calls Tryz.prog 152 #[.slice A n c, .slice A2 n2 c2] w (DmPost w (vl Wd l) (vl Wd m)) := by
  have Z1 := Lib.hid (Sm.of h hn)
  have Z2 := Lib.hid (Sm.of h2 hn2)
  generalize hN : vl Wd l = N at *
  generalize hM : vl Wd m = M at *
  have HN := Lib.hid hN; clear hN
  have HM := Lib.hid hM; clear hM
  go_enter Tryz.func152, Tryz.ntmps152
  go_wp2_with fail
  refine (Digits_any _ _ _ _ _ h (by omega)).mono ?_
  rintro e w1 ⟨A1, n1, c1, rfl, g1, hb1⟩
  rw [HN.out] at g1
  have h2 := (h2.below hb1).more hb1.size
  go_wp2_with fail
  refine (Digits_any _ _ _ _ _ h2 (by omega)).mono ?_
  rintro e w2 ⟨A3, n3, c3, rfl, g3, hb2⟩
  rw [HM.out] at g3
  have g1 := (g1.below hb2).more hb2.size
  have hb := hb1.trans (hb2.mono hb1.size)
  have y1 := g1.smallH Z1.out
  have y3 := g3.smallH Z2.out
  have H := Lib.hid g1.len
  have hcap := g1.cap
  have hn3 : 1 < n3 := by rw [← g3.len]; exact hM0
  have hVp : 0 < M := by
    rcases Nat.eq_zero_or_pos M with h | h
    · rw [h, dg_zero] at hM0; simp at hM0
    · exact h
  have e30 : ((n3 : Int) == 0) = false := by simp; omega
  have e31 : ((n3 : Int) == 1) = false := by simp; omega
  have hD := Lim_dg Hb2 N
  have hDv := vl_dg Hb2 N
  have HDv := Lib.hid hDv
  clear Z1 Z2 hb1 hb2 hM0 h h2 hDv
  generalize dg Hb N = D at *
  go_wp2_with (at_make; refine wp_make64 rfl _ _ rfl n1 _ _ rfl rfl (by omega) (by omega) (by omega) ?_; intro w3 hbk3 hb3)
  go_loopw [12, 13, 14, 15, 16] (fun rv iv _ _ _ wr => ∃ j : Nat, j ≤ n1 ∧ iv = .int .i64 ((j : Int) - 1) ∧ DmRel w2 w2.heap.size D M rv j wr) (fun _ iv _ _ _ _ => (intOf iv + 1).toNat)
  case atStart => exact ⟨n1, Nat.le_refl _, rfl, none, 0, 0, rfl, by rw [List.drop_eq_nil_of_le (Nat.le_of_eq H.out)]; simp [vl, dg_zero]; exact Rd.nil, by omega, _, DvInv.start (by simp [H.out]) (Lim_replicate Hb0 _) (Nat.le_of_eq H.out), hbk3, hb3⟩
  case round =>
    obtain ⟨j, hj, rfl, A5, n5, c5, rfl, r5, hn5, Q, j1, j2, j3⟩ := hrel
    clear hbk3 hb3
    have hQl : Q.length = n1 := j1.1.trans H.out
    rcases j with _ | j
    · obtain ⟨i1, i2, i4⟩ := j1
      rw [List.drop_zero, List.drop_zero, HDv.out] at i4
      rw [List.drop_zero, HDv.out] at r5
      have hw3 := j2.whole (B := wr.heap.size) (n := n1) (c := n1) j2.lt hQl (Nat.le_refl _) (by omega) (Lim_Wd i2)
      have H4 := Lib.hid i4
      have hbw := hb.trans (j3.mono hb.size)
      clear i1 i4 j2 hQl
      go_wp2_with fail
      refine (Limbs_any _ _ _ _ _ hw3 i2 (by omega)).mono ?_
      rintro e w6 ⟨A6, n6, c6, rfl, g6, hb6⟩
      rw [H4.out] at g6
      have r5 := (r5.below hb6).more hb6.size
      have hbw := hbw.trans (hb6.mono hbw.size)
      go_wp2_with fail
      refine (Limbs_any _ _ _ _ _ r5 (Lim_dg Hb2 _) (by omega)).mono ?_
      rintro e w8 ⟨A8, n8, c8, rfl, g8, hb8⟩
      rw [vl_dg Hb2] at g8
      have g6 := (g6.below hb8).more hb8.size
      have hbw := hbw.trans (hb8.mono hbw.size)
      clear hb6 hb8 r5 hw3
      go_wp2
      go_ret3
      exact ⟨_, _, _, _, _, _, rfl, g6, g8, hbw⟩
    · have hjD : j < D.length := by have := H.out; omega
      have hjQ : j < Q.length := by omega
      obtain ⟨b1, of1, rfl, hbb1, hc1⟩ := (g1.below j3).at_ (by omega)
      have cx := hc1 j hjD
      have ej : ((j + 1 : Nat) : Int) - 1 = j := by omega
      have bz := dig_lt (hD.get hjD)
      obtain ⟨X, hX⟩ : ∃ X, D[j].toNat + Hb * (vl Hb (D.drop (j + 1)) % M) = X := ⟨_, rfl⟩
      obtain ⟨st, s2, s3, s4⟩ := j1.step hVp hD hjD hX
      have hc2 := j2.cell j hjQ
      have hf2 := j2.frozen j
      have hb2 := fun wz (hz : Below wr.heap.size wr wz) => (j2.below hz j2.lt).set j ((X / M : Nat) : Int)
      generalize vl Hb (D.drop (j + 1)) % M = u at *
      have hx : Lim Hb [D[j]] := fun z hz => by simp at hz; subst hz; rw [Hb_eq]; omega
      have hlim6 : Lim Hb ([D[j]] ++ dg Hb u) := Lim_append.2 ⟨hx, Lim_dg Hb2 u⟩
      have hv6 : vl Hb ([D[j]] ++ dg Hb u) = X := by rw [List.singleton_append, vl_cons, vl_dg Hb2]; exact hX
      have hl6 : ([D[j]] ++ dg Hb u).length = n5 + 1 := by simp [r5.len]
      have HV6 := Lib.hid hv6; have HL6 := Lib.hid hl6; have HX := Lib.hid hX
      have how := (Bk.new wr [D[j]]).ow (n := 1) rfl (Nat.le_refl _) (by unfold maxLen; omega)
      have hQb : w2.heap.size < wr.heap.size := j2.lt
      generalize D[j] = x at *
      clear hc1 hX hv6 hl6 j1 hx
      go_wp2_with (at_builtin; refine wp_all64 rfl (.tmp 73) (.tmp 74) rfl wr.heap.size _ [x] rfl how A5 n5 c5 wr.heap.size (dg Hb u) rfl (r5.alloc (Nat.le_refl _) _) (by simp) (by omega) (by simp) ?_; intro v6 w6 ho6 hb6; obtain ⟨g, cap, rfl, hbg, hlg⟩ := ho6.form' HL6.out (by omega))
      have hb6 := ((Below.refl wr.heap.size wr).alloc (Nat.le_refl _) _).trans hb6
      obtain ⟨A7, n7, c7, e7, r7⟩ := ho6.rd (Lim_Wd hlim6) (by rw [HL6.out]; omega)
      injection e7 with e7a e7b e7c
      subst e7a e7b e7c
      clear ho6 how r5
      refine (Trim_any _ _ _ _ _ _ r7 hlim6).mono ?_
      rintro e w' ⟨n8, rfl, hn8, r8, rfl⟩
      rw [HV6.out] at r8
      clear r7
      have j6 := j3.trans (hb6.mono j3.size)
      have g3 := (g3.below j6)
      have hqle : X / M ≤ 4294967295 := by have := s3; rw [Hb_eq] at this; omega
      have hq6 : w2.heap.size ≤ w6.heap.size := j6.size
      generalize hqe : X / M = q at *
      have HQ := Lib.hid hqe; have S2 := Lib.hid s2
      clear s2 s3 s4 hqe
      go_wp2_with fail
      go_loopw [14, 15, 16] (fun lv hv _ wr2 => ∃ lo hi : Nat, lv = .int .u64 lo ∧ hv = .int .u64 hi ∧ lo ≤ q ∧ q ≤ hi ∧ hi ≤ 4294967295 ∧ Below w6.heap.size w6 wr2) (fun lv hv _ _ => (intOf hv).toNat - (intOf lv).toNat)
      case atStart => exact ⟨0, 4294967295, rfl, rfl, Nat.zero_le _, hqle, Nat.le_refl _, Below.refl _ _⟩
      case round =>
        obtain ⟨lo, hi, rfl, rfl, hlo, hhi, hh, hbi⟩ := hrel
        by_cases hlt : lo < hi
        · obtain ⟨mid, hmid⟩ : ∃ mid : Nat, (lo + hi + 1) / 2 = mid := ⟨_, rfl⟩
          have hm1 : lo < mid := by omega
          have hm2 : mid ≤ hi := by omega
          have f1 : IntKind.u64.wrap (((lo : Int) + hi + 1).tdiv 2) = mid := by
            rw [Int.tdiv_eq_ediv_of_nonneg (by omega), wrap_u64]; omega
          have g3i := (g3.below (hbi.mono hq6)).more (Nat.le_trans hq6 hbi.size)
          have r8i := (r8.below hbi).more hbi.size
          have hcm := half_cmp (X := X) (k := mid) hVp
          rw [HQ.out] at hcm
          clear hmid
          go_wp2_with fail
          refine (times_any _ _ _ _ (mid : Int) _ g3i (Lim_dg Hb2 _) (by omega) (by omega)).mono ?_
          rintro e w9 ⟨A9, n9, c9, rfl, r9, hb9⟩
          rw [vl_dg Hb2, Int.toNat_natCast] at r9
          have r8i := (r8i.below hb9).more hb9.size
          have hbi := hbi.trans (hb9.mono hbi.size)
          go_wp2_with fail
          refine (CmpDigits_any _ _ _ _ _ _ _ _ _ _ r9 r8i).mono ?_
          rintro e w10 ⟨rfl, hq⟩
          have hbi := hbi.trans (hq.bel.mono hbi.size)
          clear r9 r8i g3i hb9 hq
          generalize cmpI (M * mid) X = t at *
          by_cases ht : t ≤ 0
          · have hmq := hcm.1 ht
            clear hcm
            go_wp2
            go_roundw
            case rel => exact ⟨mid, hi, rfl, rfl, hmq, hhi, hh, hbi⟩
            case measure => simp [intOf]; omega
          · have hmq : q < mid := Nat.lt_of_not_le fun h => ht (hcm.2 h)
            clear hcm
            have em : (mid : Int) - 1 = ((mid - 1 : Nat) : Int) := by omega
            go_wp2
            go_roundw
            case rel => exact ⟨lo, mid - 1, rfl, by go_num, hlo, by omega, by omega, hbi⟩
            case measure => simp [intOf]; omega
        · obtain rfl : lo = q := by omega
          have hz := hb6.trans (hbi.mono hb6.size)
          have j2z := j2.below hz j2.lt
          have hcz := j2z.cell j hjQ
          have hfz := j2z.frozen j
          have bk9 := hb2 wr hz
          have hb9 : Below w2.heap.size w6 (wr.setCell ⟨w2.heap.size, j, none⟩ (.int .u64 (lo : Int))) := (hbi.mono hq6).setCell (Nat.le_refl _) _
          have g3z := (g3.below hb9).more (Nat.le_trans hq6 hb9.size)
          have r8z := ((r8.below hbi).far (g := w2.heap.size) (j := j) (fun a h => by cases h; show g ≠ _; omega) (.int .u64 (lo : Int))).more hb9.size
          have j9 := j6.trans hb9
          have hle : M * lo ≤ X := by rw [← HQ.out]; exact Nat.mul_div_le X M
          have hsub : X - M * lo = vl Hb (D.drop j) % M := by
            rw [← S2.out, ← HQ.out]
            have := Nat.div_add_mod X M
            omega
          have hl3 := g3.len
          have HS := Lib.hid hsub; have HLE := Lib.hid hle; have HL3 := Lib.hid hl3
          clear hb9 j2z hb2 hz hc2 hf2 cx g1 hsub hle hl3
          generalize Q[j] = z at *
          go_wp2_with fail
          refine (times_any _ _ _ _ (lo : Int) _ g3z (Lim_dg Hb2 _) (by omega) (by omega)).mono ?_
          rintro e w10 ⟨A10, n10, c10, rfl, r10, hb10⟩
          rw [vl_dg Hb2, Int.toNat_natCast] at r10
          have r8z := (r8z.below hb10).more hb10.size
          have bk10 := bk9.below hb10 bk9.lt
          have j10 := j9.trans (hb10.mono j9.size)
          have hnn : n10 ≤ n8 := by
            have := dg_len_mono Hb2 HLE.out
            rw [r10.len, r8z.len] at this
            exact this
          clear hb10
          go_wp2_with fail
          refine (rsub_any _ _ _ _ _ _ _ _ _ r8z r10 (Lim_dg Hb2 _) (Lim_dg Hb2 _) (by omega) hnn (by rw [vl_dg Hb2, vl_dg Hb2]; exact HLE.out)).mono ?_
          rintro e w11 ⟨A11, n11, c11, rfl, r11, hb11⟩
          rw [vl_dg Hb2, vl_dg Hb2, HS.out] at r11
          have bk11 := bk10.below hb11 bk10.lt
          have j11 := j10.trans (hb11.mono j10.size)
          have hn11 : n11 ≤ 4000000 := by
            have := dg_len_mono Hb2 (Nat.le_of_lt (Nat.mod_lt (vl Hb (D.drop j)) hVp))
            rw [r11.len, HL3.out] at this
            omega
          have R : DmRel w2 w2.heap.size D M (.slice A11 n11 c11) j w11 := ⟨_, _, _, rfl, r11, hn11, _, st, bk11, j11⟩
          clear r8z r10 r11 hb11 bk9 bk10 bk11 j9 j10 j11 st
          go_wp2
          go_roundw
          case rel => exact ⟨j, by omega, rfl, R⟩
          case measure => simp [intOf]
end
end Go.Proofs.YtlaphcimlingaaaGreat
namespace Go.Proofs.YtlaphcimlingaaaGreat
section
set_option maxRecDepth 100000
open Go.RowKit
set_option linter.unusedVariables false

theorem RDivMod_any (A A2 : Option Addr) (n c n2 c2 : Nat) (l m : List Int) (w : World) (h : Rd w w.heap.size A n c l) (h2 : Rd w w.heap.size A2 n2 c2 m) (hn : n ≤ 1000000) (hn2 : n2 ≤ 1000000) (hM0 : 0 < vl Wd m) :
    Calls Tryz.prog 152 #[.slice A n c, .slice A2 n2 c2] w (DmPost w (vl Wd l) (vl Wd m)) := by
  rcases Nat.lt_or_ge 1 (dg Hb (vl Wd m)).length with h1 | h1
  · exact RDivMod_many A A2 n c n2 c2 l m w h h2 hn hn2 h1
  · refine RDivMod_one A A2 n c n2 c2 l m w h h2 hn hn2 ?_
    rcases Nat.eq_zero_or_pos (dg Hb (vl Wd m)).length with h0 | h0
    · have := (dg_eq_nil Hb2).1 (List.eq_nil_of_length_eq_zero h0)
      omega
    · omega
end
end Go.Proofs.YtlaphcimlingaaaGreat
namespace Go.Proofs.YtlaphcimlingaaaGreat
section
set_option maxRecDepth 100000
open Go.RowKit
set_option linter.unusedVariables false

def GrRel (w : World) (G : Nat) (av bv : Value) (N M : Nat) (wr : World) : Prop :=
  ∃ A n c A2 n2 c2, av = .slice A n c ∧ bv = .slice A2 n2 c2 ∧ Rd wr wr.heap.size A n c (dg Wd N) ∧ Rd wr wr.heap.size A2 n2 c2 (dg Wd M) ∧ Nat.gcd N M = G ∧ n ≤ 1000000 ∧ n2 ≤ 1000000 ∧ Below w.heap.size w wr

set_option maxHeartbeats 2000000 in
theorem RGcd_any (A A2 : Option Addr) (n c n2 c2 : Nat) (l m : List Int) (w : World) (h : Rd w w.heap.size A n c l) (h2 : Rd w w.heap.size A2 n2 c2 m) (hn : n ≤ 1000000) (hn2 : n2 ≤ 1000000) :
    Calls Tryz.prog 150 #[.slice A n c, .slice A2 n2 c2] w (Out w (Nat.gcd (vl Wd l) (vl Wd m))) := by
  have hNn := dg_len_le Wd2 (h.len ▸ vl_lt h.lim : vl Wd l < Wd ^ n)
  have hMn := dg_len_le Wd2 (h2.len ▸ vl_lt h2.lim : vl Wd m < Wd ^ n2)
  generalize hN : vl Wd l = N at *
  generalize hM : vl Wd m = M at *
  have HN := Lib.hid hN; clear hN
  have HM := Lib.hid hM; clear hM
  generalize hG : Nat.gcd N M = G
  have HG := Lib.hid hG; clear hG
  go_enter Tryz.func150, Tryz.ntmps150
  go_wp2_with fail
  refine (RNorm_any _ _ _ _ _ h (by omega)).mono ?_
  rintro e w1 ⟨A', n', c', rfl, hrd, hb1⟩
  rw [HN.out] at hrd
  go_wp2_with fail
  refine (RNorm_any _ _ _ _ _ ((h2.below hb1).more hb1.size) (by omega)).mono ?_
  rintro e w2 ⟨A2', n2', c2', rfl, hrd2, hb2⟩
  rw [HM.out] at hrd2
  have hb2' := hb1.trans (hb2.mono hb1.size)
  have hrdn := (hrd.below hb2).more hb2.size
  have hl1 := hrd.len
  have hl2 := hrd2.len
  have R0 : GrRel w G (.slice A' n' c') (.slice A2' n2' c2') N M w2 := ⟨_, _, _, _, _, _, rfl, rfl, hrdn, hrd2, HG.out, by omega, by omega, hb2'⟩
  clear h h2 hrd hrd2 hb1 hb2 hb2' hrdn hl1 hl2 hNn hMn hn hn2
  go_wp2
  go_loopg [0, 1, 5, 6, 7] M (fun k av bv _ _ _ wr => ∃ a : Nat, GrRel w G av bv a k wr)
  case atStart => exact ⟨N, R0⟩
  case round =>
    clear R0
    obtain ⟨a, A3, n3, c3, A4, n4, c4, rfl, rfl, k1, k2, k3, k4, k5, k6⟩ := hrel
    have HK3 := Lib.hid k3; clear k3
    have hl4 := k2.len
    by_cases h0 : n4 = 0
    · subst h0
      have hg0 : gk = 0 := (dg_eq_nil Wd2).1 (List.eq_nil_of_length_eq_zero hl4)
      have HG0 := Lib.hid hg0; clear hg0 hl4
      go_wp2
      go_ret
      refine ⟨_, _, _, rfl, ?_, k6⟩
      have := HK3.out
      rw [HG0.out, Nat.gcd_zero_right] at this
      rw [← this]
      exact k1
    · have hgp : 0 < gk := by
        rcases Nat.eq_zero_or_pos gk with h | h
        · exfalso; rw [h, dg_zero] at hl4; exact h0 hl4.symm
        · exact h
      have HL4 := Lib.hid hl4; clear hl4
      have hn4 : (0 : Int) < n4 := by omega
      go_wp2_with fail
      refine (RDivMod_any _ _ _ _ _ _ _ _ _ k1 k2 k4 k5 (by rw [vl_dg Wd2]; exact hgp)).mono ?_
      rintro e w3 ⟨A5, n5, c5, A6, n6, c6, rfl, z1, z2, z3⟩
      rw [vl_dg Wd2, vl_dg Wd2] at z2
      have hlt : a % gk < gk := Nat.mod_lt _ hgp
      have hl6 := z2.len
      have hle6 := dg_len_mono Wd2 (Nat.le_of_lt hlt)
      have R : GrRel w G (.slice A4 n4 c4) (.slice A6 n6 c6) gk (a % gk) w3 := ⟨_, _, _, _, _, _, rfl, rfl, (k2.below z3).more z3.size, z2, by rw [← HK3.out, Nat.gcd_comm a gk, Nat.gcd_rec gk a, Nat.gcd_comm], k5, by have := HL4.out; omega, k6.trans (z3.mono k6.size)⟩
      clear hl6 hle6 z1 z2 z3 k1 k2 k6
      go_wp2
      go_roundg (a % gk)
      case measure => exact hlt
      case rel => exact ⟨gk, R⟩
end
end Go.Proofs.YtlaphcimlingaaaGreat
namespace Go.Proofs.YtlaphcimlingaaaGreat
section
set_option maxRecDepth 100000
open Go.RowKit
set_option linter.unusedVariables false

theorem flip_true (A : Option Addr) (n c : Nat) (w : World) :
    Calls Tryz.prog 140 #[.agg #[.bool true, .slice A n c]] w fun e w' => e = .returned (.agg #[.bool false, .slice A n c]) ∧ Below w.heap.size w w' := flip_any true A n c w
theorem Zr.flipt {w : World} {A : Option Addr} {n c k : Nat} {X : Int} (h : Zr w true A n c X k) : Zr w false A n c (-X) k := h.flip

end
end Go.Proofs.YtlaphcimlingaaaGreat
namespace Go.Proofs.YtlaphcimlingaaaGreat
section
set_option maxRecDepth 100000
open Go.RowKit
set_option linter.unusedVariables false

/-- Nearest, the greater one of two, of a divisor above 0. -/
def rdQ (X Y : Int) : Int := if Y ≤ X % Y + X % Y then X / Y + 1 else X / Y
/-- Upwards, of a divisor above 0. -/
def upQ (X Y : Int) : Int := if 0 < X % Y then X / Y + 1 else X / Y
def roundI (X Y : Int) : Int := if Y < 0 then rdQ (-X) (-Y) else rdQ X Y
def upI (X Y : Int) : Int := if Y < 0 then upQ (-X) (-Y) else upQ X Y
def RdPost (w : World) (Z : Int) (k : Nat) (e : Ending) (w' : World) : Prop := ∃ A n c, e = .returned (.tuple #[.agg #[.bool (ngB Z), .slice A n c], .bool true]) ∧ Zn w' A n c Z k ∧ Below w.heap.size w w'

end
end Go.Proofs.YtlaphcimlingaaaGreat
namespace Go.Proofs.YtlaphcimlingaaaGreat
section
set_option maxRecDepth 100000
open Go.RowKit
set_option linter.unusedVariables false

theorem Zn.rd {w : World} {A : Option Addr} {n c k : Nat} {X : Int} (h : Zn w A n c X k) : Rd w w.heap.size A n c (dg Wd X.natAbs) := h.1
theorem Zn.lek {w : World} {A : Option Addr} {n c k : Nat} {X : Int} (h : Zn w A n c X k) : n ≤ k := h.2
theorem rdm_plain {X Y : Int} (hY : Y ≠ 0) (h : ngB (zi (ngB X) (X.natAbs % Y.natAbs)) = false) : X / Y = zi (!(ngB X == ngB Y)) (X.natAbs / Y.natAbs) ∧ X % Y = zi (ngB X) (X.natAbs % Y.natAbs) := by
  have hM : 0 < Y.natAbs := by omega
  have hc : ngB X = false ∨ X.natAbs % Y.natAbs = 0 := by
    cases hx : ngB X
    · exact .inl rfl
    · right
      rw [hx] at h
      rcases Nat.eq_zero_or_pos (X.natAbs % Y.natAbs) with h0 | h0
      · exact h0
      · rw [ngB_true h0] at h; cases h
  have := dm_plain (b := ngB X) (b2 := ngB Y) hM hc
  rw [zi_ngB, zi_ngB] at this
  refine ⟨this.1, this.2.trans ?_⟩
  rcases hc with hc | hc
  · rw [hc]
  · rw [hc]; unfold zi; split <;> simp
theorem rdm_more {X Y : Int} (hY : Y ≠ 0) (h : ngB (zi (ngB X) (X.natAbs % Y.natAbs)) = true) : ngB X = true ∧ X % Y = zi (ngB X) (X.natAbs % Y.natAbs) + (Y.natAbs : Int) ∧
    (ngB Y = true → X / Y = zi (!(ngB X == ngB Y)) (X.natAbs / Y.natAbs) + 1) ∧ (ngB Y = false → X / Y = zi (!(ngB X == ngB Y)) (X.natAbs / Y.natAbs) - 1) := by
  have hM : 0 < Y.natAbs := by omega
  have hx : ngB X = true := by
    cases hx : ngB X
    · rw [hx, ngB_false] at h; cases h
    · rfl
  have h0 : 0 < X.natAbs % Y.natAbs := by
    rcases Nat.eq_zero_or_pos (X.natAbs % Y.natAbs) with h0 | h0
    · rw [h0, ngB_zero] at h; cases h
    · exact h0
  have := dm_more (b2 := ngB Y) (N := X.natAbs) hM h0
  rw [← hx, zi_ngB, zi_ngB] at this
  have hlt := Nat.mod_lt X.natAbs hM
  refine ⟨hx, this.2.trans ?_, fun hy => this.1.trans ?_, fun hy => this.1.trans ?_⟩
  · rw [hx, zi_true, zi_false]; omega
  · rw [hx, hy]; show zi false _ = zi false _ + 1; rw [zi_false, zi_false]; omega
  · rw [hx, hy]; show zi true _ = zi true _ - 1; rw [zi_true, zi_true]; omega

set_option maxRecDepth 100000 in
set_option maxHeartbeats 4000000 in
theorem RDivModZ_zero {b b2 : Bool} {A A2 : Option Addr} {n c n2 c2 : Nat} {X Y : Int} {j j2 : Nat} {w : World} (h : Zr w b A n c X j) (h2 : Zr w b2 A2 n2 c2 Y j2) (hY : Y = 0) (hj : j ≤ 100000) (hj2 : j2 ≤ 100000) :
    Calls Tryz.prog 107 #[.agg #[.bool b, .slice A n c], .agg #[.bool b2, .slice A2 n2 c2]] w fun e w' => e = .returned (.tuple #[.agg #[.bool false, .slice none 0 0], .agg #[.bool false, .slice none 0 0], .bool false]) ∧ Below w.heap.size w w' := by
  have HY := Lib.hid hY; clear hY
  go_enter Tryz.func107, Tryz.ntmps107
  go_wp2_with fail
  obtain ⟨hb, x_a, x_b, x_q, x_r⟩ := box4 w b A n c b2 A2 n2 c2 false none 0 0 false none 0 0
  generalize (((w.alloc (.cells #[.bool b, .slice A n c] 26)).alloc (.cells #[.bool b2, .slice A2 n2 c2] 26)).alloc (.cells #[.bool false, .slice none 0 0] 26)).alloc (.cells #[.bool false, .slice none 0 0] 26) = v1 at *
  obtain ⟨h, h2⟩ := mv2 hb h h2
  have q_a := x_a.al
  have q_b := x_b.al
  have q_q := x_q.al
  have q_r := x_r.al
  go_wp2_with fail
  with_reducible refine (RNormZ_any h j (Nat.le_refl _) (by omega)).mono ?_
  rintro e v2 ⟨A3, n3, c3, rfl, za, hb1⟩
  obtain ⟨x_a, x_b, x_q, x_r, h, h2⟩ := mv6 hb1 x_a x_b x_q x_r h h2
  replace hb := bthen hb hb1
  clear hb1
  replace q_a := x_a.al
  replace q_b := x_b.al
  replace q_q := x_q.al
  replace q_r := x_r.al
  clear h
  go_wp2_with fail
  replace x_b := x_b.aside (b' := (ngB X)) (A' := A3) (n' := n3) (c' := c3) (g := w.heap.size) (by omega)
  replace x_q := x_q.aside (b' := (ngB X)) (A' := A3) (n' := n3) (c' := c3) (g := w.heap.size) (by omega)
  replace x_r := x_r.aside (b' := (ngB X)) (A' := A3) (n' := n3) (c' := c3) (g := w.heap.size) (by omega)
  replace h2 := h2.put (b' := (ngB X)) (A' := A3) (n' := n3) (c' := c3) x_a
  replace za := za.put (b' := (ngB X)) (A' := A3) (n' := n3) (c' := c3) x_a
  replace hb := put_below (g := w.heap.size) hb (by omega) (.bool (ngB X)) (.slice A3 n3 c3)
  replace x_a := x_a.put (ngB X) A3 n3 c3
  clear q_a q_b q_q q_r
  generalize (v2.setCell ⟨w.heap.size, 0, none⟩ (.bool (ngB X))).setCell ⟨w.heap.size, 1, none⟩ (.slice A3 n3 c3) = v3 at *
  have q_a := x_a.al
  have q_b := x_b.al
  have q_q := x_q.al
  have q_r := x_r.al
  with_reducible refine (RNormZ_any h2 j2 (Nat.le_refl _) (by omega)).mono ?_
  rintro e v4 ⟨A4, n4, c4, rfl, zb, hb1⟩
  obtain ⟨x_a, x_b, x_q, x_r, h2, za⟩ := mv6 hb1 x_a x_b x_q x_r h2 za
  replace hb := bthen hb hb1
  clear hb1
  replace q_a := x_a.al
  replace q_b := x_b.al
  replace q_q := x_q.al
  replace q_r := x_r.al
  clear h2
  go_wp2_with fail
  replace x_a := x_a.aside (b' := (ngB Y)) (A' := A4) (n' := n4) (c' := c4) (g := w.heap.size + 1) (by omega)
  replace x_q := x_q.aside (b' := (ngB Y)) (A' := A4) (n' := n4) (c' := c4) (g := w.heap.size + 1) (by omega)
  replace x_r := x_r.aside (b' := (ngB Y)) (A' := A4) (n' := n4) (c' := c4) (g := w.heap.size + 1) (by omega)
  replace za := za.put (b' := (ngB Y)) (A' := A4) (n' := n4) (c' := c4) x_b
  replace zb := zb.put (b' := (ngB Y)) (A' := A4) (n' := n4) (c' := c4) x_b
  replace hb := put_below (g := w.heap.size + 1) hb (by omega) (.bool (ngB Y)) (.slice A4 n4 c4)
  replace x_b := x_b.put (ngB Y) A4 n4 c4
  clear q_a q_b q_q q_r
  generalize (v4.setCell ⟨w.heap.size + 1, 0, none⟩ (.bool (ngB Y))).setCell ⟨w.heap.size + 1, 1, none⟩ (.slice A4 n4 c4) = v5 at *
  have q_a := x_a.al
  have q_b := x_b.al
  have q_q := x_q.al
  have q_r := x_r.al
  skip
  with_reducible refine (RDivMod_zero _ _ _ _ _ _ _ _ _ za.rd zb.rd (by have := za.lek; omega) (by have := zb.lek; omega) (by rw [vl_dg Wd2, HY.out, Int.natAbs_zero])).mono ?_
  rintro e v6 ⟨rfl, hb1⟩
  obtain ⟨x_a, x_b, x_q, x_r, za, zb⟩ := mv6 hb1 x_a x_b x_q x_r za zb
  replace hb := bthen hb hb1
  clear hb1
  replace q_a := x_a.al
  replace q_b := x_b.al
  replace q_q := x_q.al
  replace q_r := x_r.al
  go_wp2
  replace x_a := x_a.aside (b' := false) (A' := none) (n' := 0) (c' := 0) (g := w.heap.size + 1 + 1) (by omega)
  replace x_b := x_b.aside (b' := false) (A' := none) (n' := 0) (c' := 0) (g := w.heap.size + 1 + 1) (by omega)
  replace x_r := x_r.aside (b' := false) (A' := none) (n' := 0) (c' := 0) (g := w.heap.size + 1 + 1) (by omega)
  replace za := za.put (b' := false) (A' := none) (n' := 0) (c' := 0) x_q
  replace zb := zb.put (b' := false) (A' := none) (n' := 0) (c' := 0) x_q
  replace hb := put_below (g := w.heap.size + 1 + 1) hb (by omega) (.bool false) (.slice none 0 0)
  replace x_q := x_q.put false none 0 0
  clear q_a q_b q_q q_r
  generalize (v6.setCell ⟨w.heap.size + 1 + 1, 0, none⟩ (.bool false)).setCell ⟨w.heap.size + 1 + 1, 1, none⟩ (.slice none 0 0) = v7 at *
  have q_a := x_a.al
  have q_b := x_b.al
  have q_q := x_q.al
  have q_r := x_r.al
  replace x_a := x_a.aside (b' := false) (A' := none) (n' := 0) (c' := 0) (g := w.heap.size + 1 + 1 + 1) (by omega)
  replace x_b := x_b.aside (b' := false) (A' := none) (n' := 0) (c' := 0) (g := w.heap.size + 1 + 1 + 1) (by omega)
  replace x_q := x_q.aside (b' := false) (A' := none) (n' := 0) (c' := 0) (g := w.heap.size + 1 + 1 + 1) (by omega)
  replace za := za.put (b' := false) (A' := none) (n' := 0) (c' := 0) x_r
  replace zb := zb.put (b' := false) (A' := none) (n' := 0) (c' := 0) x_r
  replace hb := put_below (g := w.heap.size + 1 + 1 + 1) hb (by omega) (.bool false) (.slice none 0 0)
  replace x_r := x_r.put false none 0 0
  clear q_a q_b q_q q_r
  generalize (v7.setCell ⟨w.heap.size + 1 + 1 + 1, 0, none⟩ (.bool false)).setCell ⟨w.heap.size + 1 + 1 + 1, 1, none⟩ (.slice none 0 0) = v8 at *
  have q_a := x_a.al
  have q_b := x_b.al
  have q_q := x_q.al
  have q_r := x_r.al
  refine bodyPost_ret (v := .tuple #[.agg #[.bool false, .slice none 0 0], .agg #[.bool false, .slice none 0 0], .bool false]) (by simp [results, Tryz.results107, go_sem, q_q, q_r]) rfl ?_
  exact ⟨rfl, hb⟩
end
end Go.Proofs.YtlaphcimlingaaaGreat
