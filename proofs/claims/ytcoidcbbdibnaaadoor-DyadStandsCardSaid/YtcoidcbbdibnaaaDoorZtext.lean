/-
  zed: Text.
-/
import Derived.Test.YtcoidcbbdibnaaaDoorZwrite
namespace Go.Proofs.YtcoidcbbdibnaaaDoor
open Go.RowKit
set_option linter.unusedVariables false

/-- An integer's text. -/
def txL (X : Int) : List UInt8 := (if X < 0 then [45] else []) ++ decL X.natAbs
theorem dec_bound {N n m : Nat} (hn : bl N / 3 + 1 ≤ n) (hm : n ≤ m) : N < 10 ^ m := by
  have h1 := lt_bl N
  have h2 : 2 ^ bl N ≤ 2 ^ (3 * n) := Nat.pow_le_pow_right (by omega) (by omega)
  have h3 : (2 : Nat) ^ (3 * n) = 8 ^ n := by rw [Nat.pow_mul]
  have h4 : 8 ^ n ≤ 10 ^ n := Nat.pow_le_pow_left (by omega) n
  have h5 : 10 ^ n ≤ 10 ^ m := Nat.pow_le_pow_right (by omega) hm
  omega
theorem pow_bound {T m : Nat} (h : T = 19 * 2 ^ m) (hT : T ≤ 1000000000) : m ≤ 60 := by
  rcases Nat.lt_or_ge m 61 with h1 | h1
  · omega
  · have : 2 ^ 60 ≤ 2 ^ m := Nat.pow_le_pow_right (by omega) (by omega)
    rw [show (2 : Nat) ^ 60 = 1152921504606846976 from rfl] at this
    omega
theorem sh_val {T m : Nat} (h : T = 19 * 2 ^ m) (hT : T ≤ 1000000000) : wrap64 (19 * 2 ^ m) = (T : Int) := by
  have e : (19 * 2 ^ m : Int) = (T : Int) := by rw [h, Int.natCast_mul, Int.natCast_pow]; rfl
  rw [e]
  exact IntWalk.wrap64_in _ (by omega)
theorem ext_list (s : ByteArray) (a b : Nat) : (s.extract a b).data.toList = (s.data.toList.take b).drop a := by
  rw [ByteArray.data_extract, Array.toList_extract, List.extract_eq_drop_take', List.drop_take]
theorem bytes_ext {s : ByteArray} {l : List UInt8} (h : s.data.toList = l) : s = ⟨l.toArray⟩ := by
  subst h
  obtain ⟨d⟩ := s
  simp
theorem Bx.by_ {w w' : World} {g k n c : Nat} {b : Bool} {A : Option Addr} (h : Bx w g b A n c) (hg : w.grownBy w' (some k)) (hne : g ≠ k) : Bx w' g b A n c := (hg.block g h.lt (fun e => by injection e with e; exact hne e)).trans h
theorem Zr.by8 {w w' : World} {b : Bool} {A : Option Addr} {n c k g : Nat} {X : Int} {L : List UInt8} (h : Zr w b A n c X k) (hk : Bk8 w g L) (hg : w.grownBy w' (some g)) : Zr w' b A n c X k := by
  obtain ⟨l, h1, h2, h3⟩ := h; exact ⟨l, h1.by8 hk hg, h2, h3⟩
theorem str_ret {s t : ByteArray} (h : s = t) : Ending.returned (.string s) = .returned (.string t) := by rw [h]
theorem neg_text {s : ByteArray} {l : List UInt8} (h : s = ⟨l.toArray⟩) : (⟨#[45]⟩ : ByteArray) ++ s = ⟨([45] ++ l).toArray⟩ := by
  apply bytes_ext
  subst h
  simp [ByteArray.data_append]

set_option maxRecDepth 100000 in
set_option maxHeartbeats 400000 in
theorem ZText_any {b : Bool} {A : Option Addr} {n c : Nat} {X : Int} {j : Nat} {w : World} (h : Zr w b A n c X j) (hj : j ≤ 1000) :
    Calls Tryd.prog 44 #[.agg #[.bool b, .slice A n c]] w fun e w' => e = .returned (.string ⟨(txL X).toArray⟩) ∧ Below w.heap.size w w' := by
  obtain ⟨l, h9, hX9, hn⟩ := id h
  have hab : X.natAbs = vl Wd l := by rw [← hX9, zi_abs]
  have hbl := bl_bound h9.lim h9.len rfl
  have hdb := fun m => @dec_bound (vl Wd l) (bl (vl Wd l) / 3 + 1) m (Nat.le_refl _)
  have HAB := Lib.hid hab; have HDB := Lib.hid hdb; clear hab hdb hX9
  rw [show txL X = (if X < 0 then [45] else []) ++ decL (vl Wd l) by unfold txL; rw [HAB.out]]
  generalize hN : vl Wd l = N at *
  have HN := Lib.hid hN; clear hN
  generalize hβ : bl N = β at *
  have HB := Lib.hid hβ; clear hβ
  obtain ⟨d, hd⟩ : ∃ d, d = β / 3 + 1 := ⟨_, rfl⟩
  have ed : (β : Int) / 3 + 1 = d := by omega
  have hd1 : d ≤ 1000000 := by omega
  have HD := Lib.hid hd; clear hd
  have HBS := Lib.hid (sgnI_is X)
  by_cases hX : X < 0
  · have HSG := Lib.hid (sgnI_lt0.2 hX)
    rw [if_pos hX]
    clear hX
    go_enter Tryd.func44, Tryd.ntmps44
    go_wp2_with fail
    obtain ⟨hb, x_a⟩ := box1 w b A n c
    generalize w.alloc (.cells #[.bool b, .slice A n c] 24) = v1 at *
    replace h := h.keep hb
    replace h9 := h9.go hb
    have q_a0 := x_a.c0; have q_a1 := x_a.c1; have f_a0 := x_a.fr 0; have f_a1 := x_a.fr 1
    go_wp2_with fail
    with_reducible refine (ZBitLen_any h).mono ?_
    rintro e v2 ⟨rfl, hb1⟩
    replace x_a := x_a.keep hb1
    replace h := h.keep hb1
    replace h9 := h9.go hb1
    replace hb := bthen hb hb1
    clear hb1
    replace q_a0 := x_a.c0; replace q_a1 := x_a.c1; replace f_a0 := x_a.fr 0; replace f_a1 := x_a.fr 1
    rw [HAB.out, HB.out]
    go_wp2_with fail
    refine (tenPowers_any d _ (by omega)).mono ?_
    rintro e v9 ⟨A2, m, c2, rfl, hpw, hm1, hdT, hT2, hb1⟩
    replace x_a := x_a.keep hb1
    replace h := h.keep hb1
    replace h9 := h9.go hb1
    replace hb := bthen hb hb1
    clear hb1
    replace q_a0 := x_a.c0; replace q_a1 := x_a.c1; replace f_a0 := x_a.fr 0; replace f_a1 := x_a.fr 1
    have lt_a := x_a.lt
    have le_a : w.heap.size ≤ v9.heap.size := hb.size
    obtain ⟨T, hT⟩ : ∃ T, T = 19 * 2 ^ m := ⟨_, rfl⟩
    rw [← hT] at hdT hT2
    have hm64 : m ≤ 60 := pow_bound hT (by omega)
    have hsh : wrap64 (19 * 2 ^ m) = (T : Int) := sh_val hT (by omega)
    have hNT : N < 10 ^ T := HDB.out T (by have := HD.out; omega)
    have hT1 : 19 ≤ T := by have := Nat.two_pow_pos m; omega
    have HT := Lib.hid hT; have HNT := Lib.hid hNT; clear hT hNT
    replace hT2 : T ≤ 1000000 := by omega
    go_wp2_with (at_make; refine wp_make8 rfl _ _ rfl T _ _ rfl rfl hsh hsh (by omega) ?_; intro v10 hbk hb1; replace hpw := hpw.keep hb1; replace x_a := x_a.keep hb1; replace h := h.keep hb1; replace h9 := h9.go hb1; replace hb := bthen hb hb1; clear hb1; replace q_a0 := x_a.c0; replace q_a1 := x_a.c1; replace f_a0 := x_a.fr 0; replace f_a1 := x_a.fr 1; clear hsh)
    refine (writeDigits_any m _ 0 T T [] (List.replicate T 0) [] A n c l A2 c2 _ (by simpa using hbk) rfl (by simp) HT.out hT2 (Nat.le_refl _) h9 (by omega) (by rw [HN.out]; exact HNT.out) hpw).mono ?_
    rintro e v11 ⟨rfl, k1, q1⟩
    rw [HN.out] at k1
    replace k1 : Bk8 v11 v9.heap.size (td N T) := by simpa using k1
    replace h := h.by8 hbk q1
    replace x_a := x_a.by_ q1 (by omega)
    replace hb := grow_below hb hb.size q1 (by omega)
    replace q_a0 := x_a.c0; replace q_a1 := x_a.c1; replace f_a0 := x_a.fr 0; replace f_a1 := x_a.fr 1
    clear hbk h9 hpw q1
    have hcv := conv_back (n := T) k1 (td_length N T)
    obtain ⟨s, hs⟩ : ∃ s : ByteArray, s = ⟨(td N T).toArray⟩ := ⟨_, rfl⟩
    rw [← hs] at hcv
    have hsl : s.data.toList = td N T := by rw [hs]
    have hsz : s.size = T := by rw [hs]; simp [ByteArray.size, td_length]
    have hs1 : s.size ≤ 1000000 := by omega
    have hs2 : 19 ≤ s.size := by omega
    have hz : lz (s.extract 0 (s.size - 1)).data.toList = lz ((td N T).take (T - 1)) := by rw [ext_list, hsl, hsz, List.drop_zero]
    have hzl := lz_le ((td N T).take (T - 1))
    rw [List.length_take] at hzl
    have hzs : lz ((td N T).take (T - 1)) ≤ s.size := by omega
    have hfin : s.extract (lz ((td N T).take (T - 1))) s.size = ⟨(decL N).toArray⟩ := by
      apply bytes_ext
      rw [ext_list, hsl, hsz, show (td N T).take T = td N T from List.take_of_length_le (by rw [td_length]; exact Nat.le_refl _)]
      have ht := td_text (N := N) (n := T - 1) (by rw [show T - 1 + 1 = T by omega]; exact HNT.out)
      rw [show T - 1 + 1 = T by omega] at ht
      exact ht
    have HZ := Lib.hid hz; clear hz hzl hs hsl hsz
    generalize lz ((td N T).take (T - 1)) = Z at *
    have HFIN := Lib.hid hfin; clear hfin
    go_wp2_with fail
    refine (zeros_any _ _ (by rw [ByteArray.size_extract]; omega)).mono ?_
    rintro e w' ⟨rfl, rfl⟩
    rw [HZ.out]
    go_wp2_with fail
    with_reducible refine (ZSign_any h (by omega)).mono ?_
    rintro e v3 ⟨rfl, hb1⟩
    replace x_a := x_a.keep hb1
    replace h := h.keep hb1
    replace hb := bthen hb hb1
    clear hb1
    replace q_a0 := x_a.c0; replace q_a1 := x_a.c1; replace f_a0 := x_a.fr 0; replace f_a1 := x_a.fr 1
    have hsg := HSG.out
    have hbs := HBS.out
    clear HSG HBS
    generalize sgnI X = s9 at *
    go_wp2
    go_ret
    exact ⟨str_ret (neg_text HFIN.out), hb⟩
  · have HSG : Hid (¬ sgnI X < 0) := mt sgnI_lt0.1 hX
    rw [if_neg hX]
    clear hX
    go_enter Tryd.func44, Tryd.ntmps44
    go_wp2_with fail
    obtain ⟨hb, x_a⟩ := box1 w b A n c
    generalize w.alloc (.cells #[.bool b, .slice A n c] 24) = v1 at *
    replace h := h.keep hb
    replace h9 := h9.go hb
    have q_a0 := x_a.c0; have q_a1 := x_a.c1; have f_a0 := x_a.fr 0; have f_a1 := x_a.fr 1
    go_wp2_with fail
    with_reducible refine (ZBitLen_any h).mono ?_
    rintro e v2 ⟨rfl, hb1⟩
    replace x_a := x_a.keep hb1
    replace h := h.keep hb1
    replace h9 := h9.go hb1
    replace hb := bthen hb hb1
    clear hb1
    replace q_a0 := x_a.c0; replace q_a1 := x_a.c1; replace f_a0 := x_a.fr 0; replace f_a1 := x_a.fr 1
    rw [HAB.out, HB.out]
    go_wp2_with fail
    refine (tenPowers_any d _ (by omega)).mono ?_
    rintro e v9 ⟨A2, m, c2, rfl, hpw, hm1, hdT, hT2, hb1⟩
    replace x_a := x_a.keep hb1
    replace h := h.keep hb1
    replace h9 := h9.go hb1
    replace hb := bthen hb hb1
    clear hb1
    replace q_a0 := x_a.c0; replace q_a1 := x_a.c1; replace f_a0 := x_a.fr 0; replace f_a1 := x_a.fr 1
    have lt_a := x_a.lt
    have le_a : w.heap.size ≤ v9.heap.size := hb.size
    obtain ⟨T, hT⟩ : ∃ T, T = 19 * 2 ^ m := ⟨_, rfl⟩
    rw [← hT] at hdT hT2
    have hm64 : m ≤ 60 := pow_bound hT (by omega)
    have hsh : wrap64 (19 * 2 ^ m) = (T : Int) := sh_val hT (by omega)
    have hNT : N < 10 ^ T := HDB.out T (by have := HD.out; omega)
    have hT1 : 19 ≤ T := by have := Nat.two_pow_pos m; omega
    have HT := Lib.hid hT; have HNT := Lib.hid hNT; clear hT hNT
    replace hT2 : T ≤ 1000000 := by omega
    go_wp2_with (at_make; refine wp_make8 rfl _ _ rfl T _ _ rfl rfl hsh hsh (by omega) ?_; intro v10 hbk hb1; replace hpw := hpw.keep hb1; replace x_a := x_a.keep hb1; replace h := h.keep hb1; replace h9 := h9.go hb1; replace hb := bthen hb hb1; clear hb1; replace q_a0 := x_a.c0; replace q_a1 := x_a.c1; replace f_a0 := x_a.fr 0; replace f_a1 := x_a.fr 1; clear hsh)
    refine (writeDigits_any m _ 0 T T [] (List.replicate T 0) [] A n c l A2 c2 _ (by simpa using hbk) rfl (by simp) HT.out hT2 (Nat.le_refl _) h9 (by omega) (by rw [HN.out]; exact HNT.out) hpw).mono ?_
    rintro e v11 ⟨rfl, k1, q1⟩
    rw [HN.out] at k1
    replace k1 : Bk8 v11 v9.heap.size (td N T) := by simpa using k1
    replace h := h.by8 hbk q1
    replace x_a := x_a.by_ q1 (by omega)
    replace hb := grow_below hb hb.size q1 (by omega)
    replace q_a0 := x_a.c0; replace q_a1 := x_a.c1; replace f_a0 := x_a.fr 0; replace f_a1 := x_a.fr 1
    clear hbk h9 hpw q1
    have hcv := conv_back (n := T) k1 (td_length N T)
    obtain ⟨s, hs⟩ : ∃ s : ByteArray, s = ⟨(td N T).toArray⟩ := ⟨_, rfl⟩
    rw [← hs] at hcv
    have hsl : s.data.toList = td N T := by rw [hs]
    have hsz : s.size = T := by rw [hs]; simp [ByteArray.size, td_length]
    have hs1 : s.size ≤ 1000000 := by omega
    have hs2 : 19 ≤ s.size := by omega
    have hz : lz (s.extract 0 (s.size - 1)).data.toList = lz ((td N T).take (T - 1)) := by rw [ext_list, hsl, hsz, List.drop_zero]
    have hzl := lz_le ((td N T).take (T - 1))
    rw [List.length_take] at hzl
    have hzs : lz ((td N T).take (T - 1)) ≤ s.size := by omega
    have hfin : s.extract (lz ((td N T).take (T - 1))) s.size = ⟨(decL N).toArray⟩ := by
      apply bytes_ext
      rw [ext_list, hsl, hsz, show (td N T).take T = td N T from List.take_of_length_le (by rw [td_length]; exact Nat.le_refl _)]
      have ht := td_text (N := N) (n := T - 1) (by rw [show T - 1 + 1 = T by omega]; exact HNT.out)
      rw [show T - 1 + 1 = T by omega] at ht
      exact ht
    have HZ := Lib.hid hz; clear hz hzl hs hsl hsz
    generalize lz ((td N T).take (T - 1)) = Z at *
    have HFIN := Lib.hid hfin; clear hfin
    go_wp2_with fail
    refine (zeros_any _ _ (by rw [ByteArray.size_extract]; omega)).mono ?_
    rintro e w' ⟨rfl, rfl⟩
    rw [HZ.out]
    go_wp2_with fail
    with_reducible refine (ZSign_any h (by omega)).mono ?_
    rintro e v3 ⟨rfl, hb1⟩
    replace x_a := x_a.keep hb1
    replace h := h.keep hb1
    replace hb := bthen hb hb1
    clear hb1
    replace q_a0 := x_a.c0; replace q_a1 := x_a.c1; replace f_a0 := x_a.fr 0; replace f_a1 := x_a.fr 1
    have hsg := HSG.out
    have hbs := HBS.out
    clear HSG HBS
    generalize sgnI X = s9 at *
    go_wp2
    go_ret
    exact ⟨str_ret HFIN.out, hb⟩

end Go.Proofs.YtcoidcbbdibnaaaDoor
