/-
  Mul once more: the limbs of what it hands back are new.
-/
import Derived.Test.YtcoidcbbdibnaaaDoorSums
namespace Go.Proofs.YtcoidcbbdibnaaaDoor
open Go.RowKit
set_option linter.unusedVariables false

/-- What a function hands back: a slice of its own that reads as the number N. -/
def OutF (w : World) (N : Nat) (e : Ending) (w' : World) : Prop := ∃ A n c, e = .returned (.slice A n c) ∧ Rd w' w'.heap.size A n c (dg Wd N) ∧ Below w.heap.size w w' ∧ (n = 0 ∨ ∃ b off, A = some ⟨b, off, none⟩ ∧ w.heap.size ≤ b)

set_option maxHeartbeats 400000 in
theorem trim_at (A : Option Addr) (n c : Nat) (l : List Int) (w : World) (B : Nat) (h : Rd w B A n c l) :
    Calls Tryd.prog 89 #[.slice A n c] w fun e w' => ∃ A' n' c', e = .returned (.slice A' n' c') ∧ Rd w B A' n' c' (dg Wd (vl Wd l)) ∧ w = w' ∧ (n' = 0 ∨ A' = A) := by
  have hcap := h.cap
  have hbig := h.big
  have H := Lib.hid h.len
  go_enter Tryd.func89, Tryd.ntmps89
  go_wp2
  go_loop [3] (fun i => ∃ k : Nat, k ≤ n ∧ i = .int .i64 k ∧ Hid (∀ j (hj : j < l.length), k ≤ j → l[j] = 0)) (fun i => (intOf i).toNat)
  case atStart => exact ⟨n, Nat.le_refl _, rfl, fun j hj hk => by have := H.out; omega⟩
  case round =>
    obtain ⟨k, hk, rfl, hz⟩ := hrel
    rcases k with _ | k
    · go_wp2
      go_ret
      exact ⟨_, _, _, rfl, h.trimmed0 hz.out, rfl, .inl rfl⟩
    · obtain ⟨b, off, rfl, hb, hc⟩ := h.at_ (by omega)
      have hkl : k < l.length := by have := H.out; omega
      have hck := hc k hkl
      clear hc
      generalize hx : l[k] = x at hck
      have Hx := Lib.hid hx; clear hx
      have b0 : ((↑(k + 1) : Int) == 0) = false := by simp; omega
      go_wp2
      · have h0 : (x == 0) = true := by assumption
        have h1 : l[k] = 0 := Hx.out.trans (by simpa using h0)
        go_round
        case rel => exact ⟨k, by omega, rfl, trim_zeros H.out hz.out hkl h1⟩
        case measure => simp [intOf]
      · have h0 : (x == 0) = false := by assumption
        have h1 : l[k] ≠ 0 := fun e => by rw [Hx.out] at e; simp [e] at h0
        go_ret
        exact ⟨_, _, _, rfl, h.trimmed (k := k + 1) (by omega) hz.out (fun _ => ⟨hkl, h1⟩), rfl, .inr rfl⟩

set_option maxHeartbeats 1000000 in
/-- The product's loop and end, the longer factor first. -/
theorem Mul_new (A A2 : Option Addr) (n c n2 c2 : Nat) (l m : List Int) (w : World) (h : Rd w w.heap.size A n c l) (h2 : Rd w w.heap.size A2 n2 c2 m) (hn : n ≤ 1099511627776) (hn2 : n2 ≤ 1099511627776) :
    Calls Tryd.prog 86 #[.slice A n c, .slice A2 n2 c2] w (OutF w (vl Wd l * vl Wd m)) := by
  have hNn := dg_len_le Wd2 (h.len ▸ vl_lt h.lim : vl Wd l < Wd ^ n)
  have hMn := dg_len_le Wd2 (h2.len ▸ vl_lt h2.lim : vl Wd m < Wd ^ n2)
  generalize hN : vl Wd l = N at *
  generalize hM : vl Wd m = M at *
  have HN := Lib.hid hN; clear hN
  have HM := Lib.hid hM; clear hM
  go_enter Tryd.func86, Tryd.ntmps86
  go_wp2_with fail
  refine (trim_any _ _ _ _ _ _ h).mono ?_
  rintro e w' ⟨A', n', c', rfl, hrd, rfl⟩
  go_wp2_with fail
  refine (trim_any _ _ _ _ _ _ h2).mono ?_
  rintro e w' ⟨A2', n2', c2', rfl, hrd2, rfl⟩
  rw [HN.out] at hrd
  rw [HM.out] at hrd2
  clear h h2
  have H := Lib.hid hrd.len
  have H2 := Lib.hid hrd2.len
  have hs1 : n' ≤ 1099511627776 := by have := H.out; omega
  have hs2 : n2' ≤ 1099511627776 := by have := H2.out; omega
  have hcap := hrd.cap
  have hcap2 := hrd2.cap
  have hbig := hrd.big
  have hbig2 := hrd2.big
  clear hNn hMn hn hn2
  by_cases hlt : n' < n2'
  · by_cases h0 : n' = 0
    · subst h0
      go_wp2
      go_ret
      have : N = 0 := (dg_eq_nil Wd2).1 (List.eq_nil_of_length_eq_zero H.out)
      subst this
      exact ⟨_, _, _, rfl, by rw [Nat.zero_mul, dg_zero]; exact Rd.nil, Below.refl _ _, .inl rfl⟩
    · have hb0 : ((n' : Int) == 0) = false := by simp; omega
      obtain ⟨T, hT⟩ : ∃ T, T = n2' + n' := ⟨_, rfl⟩
      have HT := Lib.hid hT; clear hT
      go_wp2_with (at_make; refine wp_make64 rfl _ _ rfl T _ _ rfl rfl (by have := HT.out; omega) (by have := HT.out; omega) (by have := HT.out; omega) ?_; intro w1 hbk1 hb1)
      go_loopw [6, 7, 30] (fun _ _ i wr => ∃ k : Nat, k ≤ n' ∧ i = .int .i64 k ∧ MRel w w.heap.size (dg Wd M) (dg Wd N) k wr) (fun _ _ i _ => n' - (intOf i).toNat)
      case atStart => exact ⟨0, Nat.zero_le _, rfl, _, by simp [H2.out, H.out, HT.out], Lim_replicate Wd0 _, by rw [vl_replicate]; rfl, hbk1, hb1⟩
      case round =>
        obtain ⟨k, hk, rfl, R, r1, r2, r3, r4, r5⟩ := hrel
        have HR := Lib.hid r1; clear r1
        have HV := Lib.hid r3; clear r3
        by_cases hkm : k < n'
        · have hrdr := (hrd2.below r5)
          obtain ⟨b, of, rfl, hb, hc⟩ := (hrd.below r5).at_ (by omega)
          have hkl : k < (dg Wd N).length := by have := H.out; omega
          have hc1 := hc k hkl
          have hy : Lm (dg Wd N)[k] := (Lim_dg Wd2 N).get hkl
          clear hc hbk1
          generalize hye : (dg Wd N)[k] = y at hc1 hy
          have Hy := Lib.hid hye; clear hye
          obtain ⟨E, hE⟩ : ∃ E, E = k + n2' + 1 := ⟨_, rfl⟩
          have e1 : (k : Int) + n2' + 1 = E := by omega
          have hkE : k ≤ E := by omega
          have hET : E ≤ T := by have := HT.out; omega
          have hEk : ¬ E = k := by omega
          have HE := Lib.hid hE; clear hE
          go_wp2
          refine wp_region_still_tail 10 (by kernel_rfl) (by kernel_rfl) ?_
          change wpStill _ _ wr.drew (fun a' => wpList _ _ _ _ a' wr.drew) _ _
          have hd1 : wr.drew.cell? ⟨b, of + k, none⟩ = _ := hc1
          have r4' := r4.drew
          have r5' := r5.drew
          have hrdr' := hrd2.below r5'
          generalize wr.drew = w4 at *
          clear hc1 r4 r5 hrdr
          simp only [List.take_succ_cons, List.take_zero, List.drop_succ_cons, List.drop_zero]
          repeat still_step
          refine wpStill_nil ?_
          have hlk : (R.take k).length = k := by have := HR.out; have := H2.out; have := H.out; simp; omega
          have hlW : ((R.drop k).take (n2' + 1)).length = E - k := by have := HR.out; have := H2.out; have := H.out; have := HE.out; simp; omega
          have hlW2 : ((R.drop k).take (n2' + 1)).length = n2' + 1 := by have := HE.out; omega
          have htop : ((R.drop k).take (n2' + 1))[(dg Wd M).length]? = some 0 := by
            have hj : k + n2' < R.length := by have := HR.out; have := H2.out; have := H.out; omega
            rw [H2.out, List.getElem?_take_of_lt (by omega), List.getElem?_drop, List.getElem?_eq_getElem hj]
            congr 1
            refine zero_at r2 hj ?_
            rw [HV.out, vl_dg Wd2, Nat.add_comm, Nat.pow_add]
            have b1 : M < Wd ^ n2' := dg_lt Wd2 (Nat.le_of_eq H2.out)
            have b2 := vl_lt ((Lim_dg Wd2 N).take k)
            rw [List.length_take, Nat.min_eq_left (by omega)] at b2
            exact Nat.mul_lt_mul'' b1 b2
          have hR4 : Bk w4 w.heap.size (R.take k ++ ((R.drop k).take (n2' + 1) ++ R.drop (k + (n2' + 1)))) := by rw [← cut3]; exact r4'
          have HlW := Lib.hid hlW; have HlW2 := Lib.hid hlW2; have Hlk := Lib.hid hlk; have Htop := Lib.hid htop
          clear hlW hlW2 hlk htop
          go_wp2_with (go_at_call 109; refine (addProduct_any w.heap.size k (E - k) (E - k) A2' n2' c2' _ _ _ _ y w4 _ Hlk.out HlW.out ((r2.drop k).take _) (by omega) hR4 hrdr' (Nat.le_refl _) (by have := HE.out; omega) hy Htop.out).mono ?_; rintro e w5 ⟨W', rfl, q1, q2, q4, q5, q6⟩)
          have hb5 := grow_below r5' r5'.size q6 (Nat.le_refl _)
          go_roundw
          case rel =>
            refine ⟨k + 1, by omega, by go_num, _, ?_, Lim_append.2 ⟨r2.take k, Lim_append.2 ⟨q2, r2.drop _⟩⟩, ?_, q5, hb5⟩
            · have := HR.out; have := H2.out; have := H.out; have := HlW2.out; rw [List.length_append, List.length_append, q1]; simp; omega
            · have hx := MRel.next (R := R) (W' := W') hkl HR.out HV.out (by rw [H2.out]; exact q1) (by rw [H2.out, Hy.out]; exact q4)
              rw [H2.out] at hx
              exact hx
          case measure => simp [intOf]; omega
        · obtain rfl : n' = k := by omega
          have hval : vl Wd R = N * M := by rw [HV.out, List.take_of_length_le (Nat.le_of_eq H.out), vl_dg Wd2, vl_dg Wd2, Nat.mul_comm]
          have HV2 := Lib.hid hval; clear hval
          have hw3 := r4.whole (B := wr.heap.size) (n := T) (c := T) r4.lt (by rw [HR.out, H2.out, H.out, HT.out]) (Nat.le_refl _) (by have := HT.out; omega) r2
          go_wp2_with fail
          refine (trim_at _ _ _ _ _ _ hw3).mono ?_
          rintro e w' ⟨A5, n5, c5, rfl, hrd5, rfl, hnew⟩
          have HNEW := Lib.hid hnew; clear hnew
          go_wp2
          go_ret
          exact ⟨_, _, _, rfl, by rw [HV2.out] at hrd5; exact hrd5, r5, HNEW.out.imp id (fun h => ⟨_, _, h, Nat.le_refl _⟩)⟩
  · by_cases h0 : n2' = 0
    · subst h0
      go_wp2
      go_ret
      have : M = 0 := (dg_eq_nil Wd2).1 (List.eq_nil_of_length_eq_zero H2.out)
      subst this
      exact ⟨_, _, _, rfl, by rw [Nat.mul_zero, dg_zero]; exact Rd.nil, Below.refl _ _, .inl rfl⟩
    · have hb0 : ((n2' : Int) == 0) = false := by simp; omega
      obtain ⟨T, hT⟩ : ∃ T, T = n' + n2' := ⟨_, rfl⟩
      have HT := Lib.hid hT; clear hT
      go_wp2_with (at_make; refine wp_make64 rfl _ _ rfl T _ _ rfl rfl (by have := HT.out; omega) (by have := HT.out; omega) (by have := HT.out; omega) ?_; intro w1 hbk1 hb1)
      go_loopw [6, 7, 30] (fun _ _ i wr => ∃ k : Nat, k ≤ n2' ∧ i = .int .i64 k ∧ MRel w w.heap.size (dg Wd N) (dg Wd M) k wr) (fun _ _ i _ => n2' - (intOf i).toNat)
      case atStart => exact ⟨0, Nat.zero_le _, rfl, _, by simp [H.out, H2.out, HT.out], Lim_replicate Wd0 _, by rw [vl_replicate]; rfl, hbk1, hb1⟩
      case round =>
        obtain ⟨k, hk, rfl, R, r1, r2, r3, r4, r5⟩ := hrel
        have HR := Lib.hid r1; clear r1
        have HV := Lib.hid r3; clear r3
        by_cases hkm : k < n2'
        · have hrdr := (hrd.below r5)
          obtain ⟨b, of, rfl, hb, hc⟩ := (hrd2.below r5).at_ (by omega)
          have hkl : k < (dg Wd M).length := by have := H2.out; omega
          have hc1 := hc k hkl
          have hy : Lm (dg Wd M)[k] := (Lim_dg Wd2 M).get hkl
          clear hc hbk1
          generalize hye : (dg Wd M)[k] = y at hc1 hy
          have Hy := Lib.hid hye; clear hye
          obtain ⟨E, hE⟩ : ∃ E, E = k + n' + 1 := ⟨_, rfl⟩
          have e1 : (k : Int) + n' + 1 = E := by omega
          have hkE : k ≤ E := by omega
          have hET : E ≤ T := by have := HT.out; omega
          have hEk : ¬ E = k := by omega
          have HE := Lib.hid hE; clear hE
          go_wp2
          refine wp_region_still_tail 10 (by kernel_rfl) (by kernel_rfl) ?_
          change wpStill _ _ wr.drew (fun a' => wpList _ _ _ _ a' wr.drew) _ _
          have hd1 : wr.drew.cell? ⟨b, of + k, none⟩ = _ := hc1
          have r4' := r4.drew
          have r5' := r5.drew
          have hrdr' := hrd.below r5'
          generalize wr.drew = w4 at *
          clear hc1 r4 r5 hrdr
          simp only [List.take_succ_cons, List.take_zero, List.drop_succ_cons, List.drop_zero]
          repeat still_step
          refine wpStill_nil ?_
          have hlk : (R.take k).length = k := by have := HR.out; have := H.out; have := H2.out; simp; omega
          have hlW : ((R.drop k).take (n' + 1)).length = E - k := by have := HR.out; have := H.out; have := H2.out; have := HE.out; simp; omega
          have hlW2 : ((R.drop k).take (n' + 1)).length = n' + 1 := by have := HE.out; omega
          have htop : ((R.drop k).take (n' + 1))[(dg Wd N).length]? = some 0 := by
            have hj : k + n' < R.length := by have := HR.out; have := H.out; have := H2.out; omega
            rw [H.out, List.getElem?_take_of_lt (by omega), List.getElem?_drop, List.getElem?_eq_getElem hj]
            congr 1
            refine zero_at r2 hj ?_
            rw [HV.out, vl_dg Wd2, Nat.add_comm, Nat.pow_add]
            have b1 : N < Wd ^ n' := dg_lt Wd2 (Nat.le_of_eq H.out)
            have b2 := vl_lt ((Lim_dg Wd2 M).take k)
            rw [List.length_take, Nat.min_eq_left (by omega)] at b2
            exact Nat.mul_lt_mul'' b1 b2
          have hR4 : Bk w4 w.heap.size (R.take k ++ ((R.drop k).take (n' + 1) ++ R.drop (k + (n' + 1)))) := by rw [← cut3]; exact r4'
          have HlW := Lib.hid hlW; have HlW2 := Lib.hid hlW2; have Hlk := Lib.hid hlk; have Htop := Lib.hid htop
          clear hlW hlW2 hlk htop
          go_wp2_with (go_at_call 109; refine (addProduct_any w.heap.size k (E - k) (E - k) A' n' c' _ _ _ _ y w4 _ Hlk.out HlW.out ((r2.drop k).take _) (by omega) hR4 hrdr' (Nat.le_refl _) (by have := HE.out; omega) hy Htop.out).mono ?_; rintro e w5 ⟨W', rfl, q1, q2, q4, q5, q6⟩)
          have hb5 := grow_below r5' r5'.size q6 (Nat.le_refl _)
          go_roundw
          case rel =>
            refine ⟨k + 1, by omega, by go_num, _, ?_, Lim_append.2 ⟨r2.take k, Lim_append.2 ⟨q2, r2.drop _⟩⟩, ?_, q5, hb5⟩
            · have := HR.out; have := H.out; have := H2.out; have := HlW2.out; rw [List.length_append, List.length_append, q1]; simp; omega
            · have hx := MRel.next (R := R) (W' := W') hkl HR.out HV.out (by rw [H.out]; exact q1) (by rw [H.out, Hy.out]; exact q4)
              rw [H.out] at hx
              exact hx
          case measure => simp [intOf]; omega
        · obtain rfl : n2' = k := by omega
          have hval : vl Wd R = N * M := by rw [HV.out, List.take_of_length_le (Nat.le_of_eq H2.out), vl_dg Wd2, vl_dg Wd2]
          have HV2 := Lib.hid hval; clear hval
          have hw3 := r4.whole (B := wr.heap.size) (n := T) (c := T) r4.lt (by rw [HR.out, H.out, H2.out, HT.out]) (Nat.le_refl _) (by have := HT.out; omega) r2
          go_wp2_with fail
          refine (trim_at _ _ _ _ _ _ hw3).mono ?_
          rintro e w' ⟨A5, n5, c5, rfl, hrd5, rfl, hnew⟩
          have HNEW := Lib.hid hnew; clear hnew
          go_wp2
          go_ret
          exact ⟨_, _, _, rfl, by rw [HV2.out] at hrd5; exact hrd5, r5, HNEW.out.imp id (fun h => ⟨_, _, h, Nat.le_refl _⟩)⟩
end Go.Proofs.YtcoidcbbdibnaaaDoor
