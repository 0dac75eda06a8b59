/-
  zed: Parse.
-/
import Derived.Test.YtcoidcbbdibnaaaZrdig
import Derived.Test.YtcoidcbbdibnaaaZrnd
namespace Go.Proofs.Ytcoidcbbdibnaaa
open Go.RowKit
set_option linter.unusedVariables false

theorem Sm_dv {l : List UInt8} (h : ∀ c ∈ l, isD c = true) {k : Nat} (hl : l.length ≤ k) : Sm (dv l) k :=
  Nat.lt_of_lt_of_le (dv_lt h) (Nat.le_trans (Nat.pow_le_pow_left (by rw [Wd_eq]; omega) _) (Nat.pow_le_pow_right Wd0 hl))
theorem okD_all {l : List UInt8} (h : okD l = true) : (∀ c ∈ l, isD c = true) ∧ 0 < l.length := by
  unfold okD at h
  rw [Bool.and_eq_true, List.all_eq_true] at h
  exact ⟨h.2, by cases l with | nil => simp at h | cons => simp⟩
/-- How a text begins, and the string that is left. -/
theorem sg_cases (s : ByteArray) : (s.size = 0 ∧ sgB s.data.toList = false ∧ sgT s.data.toList = s.data.toList) ∨
    (∃ h : 0 < s.size, ((s[0].toNat : Int) == 45) = true ∧ sgB s.data.toList = true ∧ (s.extract 1 s.size).data.toList = sgT s.data.toList) ∨
    (∃ h : 0 < s.size, ((s[0].toNat : Int) == 45) = false ∧ sgB s.data.toList = false ∧ sgT s.data.toList = s.data.toList) := by
  have hlen : s.data.toList.length = s.size := by rw [Array.length_toList]; rfl
  rcases Nat.eq_zero_or_pos s.size with h0 | h0
  · left
    have hn : s.data.toList = [] := List.eq_nil_of_length_eq_zero (hlen.trans h0)
    exact ⟨h0, by rw [hn]; rfl, by rw [hn]; rfl⟩
  · right
    have hg : s.data.toList.head? = some s[0] := by rw [List.head?_eq_getElem?, List.getElem?_eq_getElem (by omega)]; rfl
    by_cases hx : s[0] = 45
    · left
      have hsB : sgB s.data.toList = true := by unfold sgB; rw [hg, hx]; rfl
      refine ⟨h0, by rw [hx]; rfl, hsB, ?_⟩
      unfold sgT
      rw [if_pos hsB, ext_list, List.take_of_length_le (by omega), List.drop_one]
    · right
      have hsB : sgB s.data.toList = false := by unfold sgB; rw [hg]; simpa using hx
      refine ⟨h0, ?_, hsB, by unfold sgT; rw [if_neg (by rw [hsB]; simp)]⟩
      rw [beq_eq_false_iff_ne]; intro h; exact hx (UInt8.toNat_inj.1 (by rw [show (45 : UInt8).toNat = 45 from rfl]; omega))

set_option maxRecDepth 100000 in
set_option maxHeartbeats 4000000 in
theorem ZParse_yes (s : ByteArray) {w : World} (hs : s.size ≤ 1000) (hok : okD (sgT s.data.toList) = true) :
    Calls Try.prog 21 #[.string s] w (RdPost w (zi (sgB s.data.toList) (dv (sgT s.data.toList))) 1000) := by
  obtain ⟨hal, hpos⟩ := okD_all hok
  have HAL := Lib.hid hal; have HOK := Lib.hid hok; clear hal hok
  rcases sg_cases s with ⟨h0, hsB, hsT⟩ | ⟨h0, hb0, hsB, hsT⟩ | ⟨h0, hb0, hsB, hsT⟩
  · exfalso
    have hlen : s.data.toList.length = s.size := by rw [Array.length_toList]; rfl
    rw [hsT, hlen, h0] at hpos
    omega
  · rw [hsB]
    obtain ⟨t, ht⟩ : ∃ t, s.extract 1 s.size = t := ⟨_, rfl⟩
    rw [ht] at hsT
    have hts : t.size ≤ 1000 := by rw [← ht, ByteArray.size_extract]; omega
    have hs1 : 1 ≤ s.size := h0
    rw [← hsT] at HAL HOK hpos ⊢
    clear hsT
    have hlen : t.data.toList.length = t.size := by rw [Array.length_toList]; rfl
    have hzl := lz_le t.data.toList
    have hstr := dv_strip t.data.toList
    obtain ⟨u, hu⟩ : ∃ u, t.extract (lz t.data.toList) t.size = u := ⟨_, rfl⟩
    have hul : u.data.toList = t.data.toList.drop (lz t.data.toList) := by rw [← hu, ext_list, List.take_of_length_le (by omega)]
    have hud : ∀ x ∈ u.data.toList, isD x = true := by rw [hul]; exact fun x hx => HAL.out x (List.mem_of_mem_drop hx)
    have hus : u.size ≤ 1000 := by rw [← hu, ByteArray.size_extract]; omega
    rw [← hul] at hstr
    have hsm : Sm (dv t.data.toList) 1000 := Sm_dv HAL.out (by omega)
    have hz2 : lz t.data.toList ≤ t.size := by omega
    have HSTR := Lib.hid hstr; have HUD := Lib.hid hud; have HSM := Lib.hid hsm
    generalize hZ : lz t.data.toList = Z0 at *
    have HZ := Lib.hid hZ; clear hZ hstr hud hsm hul hzl hlen hpos hsB
    generalize hDV : dv t.data.toList = DV at *
    clear hDV
    go_enter Try.func21, Try.ntmps21
    go_wp2_with fail
    obtain ⟨hb, x_r⟩ := box1 w false none 0 0
    generalize w.alloc (.cells #[.bool false, .slice none 0 0] 24) = v1 at *
    have q_r0 := x_r.c0; have q_r1 := x_r.c1; have f_r0 := x_r.fr 0; have f_r1 := x_r.fr 1
    skip
    refine (decimal_any t _ (by omega)).mono ?_
    rintro e w' ⟨rfl, rfl⟩
    rw [HOK.out]
    go_wp2_with fail
    refine (zeros_any t _ (by omega)).mono ?_
    rintro e w' ⟨rfl, rfl⟩
    rw [HZ.out]
    go_wp2_with fail
    refine (tenPowers_any u.size _ (by omega)).mono ?_
    rintro e v9 ⟨A2, m, c2, rfl, hpw, hm1, hdT, hT2, hb1⟩
    replace x_r := x_r.keep hb1
    replace hb := bthen hb hb1
    clear hb1
    replace q_r0 := x_r.c0; replace q_r1 := x_r.c1; replace f_r0 := x_r.fr 0; replace f_r1 := x_r.fr 1
    go_wp2_with fail
    refine (readDigits_any m u A2 c2 _ hdT (by omega) HUD.out hpw).mono ?_
    rintro e v10 ⟨A1, n1, c1, rfl, g1, hb1⟩
    rw [HSTR.out] at g1
    clear hpw
    replace x_r := x_r.keep hb1
    replace hb := bthen hb hb1
    clear hb1
    replace q_r0 := x_r.c0; replace q_r1 := x_r.c1; replace f_r0 := x_r.fr 0; replace f_r1 := x_r.fr 1
    go_wp2_with fail
    with_reducible refine (signed_any true A1 n1 c1 DV _ 1000 g1 HSM.out).mono ?_
    rintro e v2 ⟨rfl, z1, hb1⟩
    replace x_r := x_r.keep hb1
    replace g1 := g1.go hb1
    replace hb := bthen hb hb1
    clear hb1
    replace q_r0 := x_r.c0; replace q_r1 := x_r.c1; replace f_r0 := x_r.fr 0; replace f_r1 := x_r.fr 1
    go_wp2
    replace g1 := g1.sput (b' := (ngB (zi true DV))) (A' := A1) (n' := n1) (c' := c1) x_r
    replace z1 := z1.put (b' := (ngB (zi true DV))) (A' := A1) (n' := n1) (c' := c1) x_r
    replace hb := put_below (g := w.heap.size) hb (by omega) (.bool (ngB (zi true DV))) (.slice A1 n1 c1)
    replace x_r := x_r.put (ngB (zi true DV)) A1 n1 c1
    clear q_r0 q_r1 f_r0 f_r1
    generalize (v2.setCell ⟨w.heap.size, 0, none⟩ (.bool (ngB (zi true DV)))).setCell ⟨w.heap.size, 1, none⟩ (.slice A1 n1 c1) = v3 at *
    have q_r0 := x_r.c0; have q_r1 := x_r.c1; have f_r0 := x_r.fr 0; have f_r1 := x_r.fr 1
    refine bodyPost_ret (v := .tuple #[.agg #[.bool (ngB (zi true DV)), .slice A1 n1 c1], .bool true]) (by simp [results, Try.results21, go_sem, q_r0, q_r1]) rfl ?_
    exact ⟨_, _, _, rfl, z1, hb⟩
  · rw [hsB]
    replace hsT := hsT.symm
    have hts := hs
    rw [← hsT] at HAL HOK hpos ⊢
    clear hsT
    have hlen : s.data.toList.length = s.size := by rw [Array.length_toList]; rfl
    have hzl := lz_le s.data.toList
    have hstr := dv_strip s.data.toList
    obtain ⟨u, hu⟩ : ∃ u, s.extract (lz s.data.toList) s.size = u := ⟨_, rfl⟩
    have hul : u.data.toList = s.data.toList.drop (lz s.data.toList) := by rw [← hu, ext_list, List.take_of_length_le (by omega)]
    have hud : ∀ x ∈ u.data.toList, isD x = true := by rw [hul]; exact fun x hx => HAL.out x (List.mem_of_mem_drop hx)
    have hus : u.size ≤ 1000 := by rw [← hu, ByteArray.size_extract]; omega
    rw [← hul] at hstr
    have hsm : Sm (dv s.data.toList) 1000 := Sm_dv HAL.out (by omega)
    have hz2 : lz s.data.toList ≤ s.size := by omega
    have HSTR := Lib.hid hstr; have HUD := Lib.hid hud; have HSM := Lib.hid hsm
    generalize hZ : lz s.data.toList = Z0 at *
    have HZ := Lib.hid hZ; clear hZ hstr hud hsm hul hzl hlen hpos hsB
    generalize hDV : dv s.data.toList = DV at *
    clear hDV
    go_enter Try.func21, Try.ntmps21
    go_wp2_with fail
    obtain ⟨hb, x_r⟩ := box1 w false none 0 0
    generalize w.alloc (.cells #[.bool false, .slice none 0 0] 24) = v1 at *
    have q_r0 := x_r.c0; have q_r1 := x_r.c1; have f_r0 := x_r.fr 0; have f_r1 := x_r.fr 1
    skip
    refine (decimal_any s _ (by omega)).mono ?_
    rintro e w' ⟨rfl, rfl⟩
    rw [HOK.out]
    go_wp2_with fail
    refine (zeros_any s _ (by omega)).mono ?_
    rintro e w' ⟨rfl, rfl⟩
    rw [HZ.out]
    go_wp2_with fail
    refine (tenPowers_any u.size _ (by omega)).mono ?_
    rintro e v9 ⟨A2, m, c2, rfl, hpw, hm1, hdT, hT2, hb1⟩
    replace x_r := x_r.keep hb1
    replace hb := bthen hb hb1
    clear hb1
    replace q_r0 := x_r.c0; replace q_r1 := x_r.c1; replace f_r0 := x_r.fr 0; replace f_r1 := x_r.fr 1
    go_wp2_with fail
    refine (readDigits_any m u A2 c2 _ hdT (by omega) HUD.out hpw).mono ?_
    rintro e v10 ⟨A1, n1, c1, rfl, g1, hb1⟩
    rw [HSTR.out] at g1
    clear hpw
    replace x_r := x_r.keep hb1
    replace hb := bthen hb hb1
    clear hb1
    replace q_r0 := x_r.c0; replace q_r1 := x_r.c1; replace f_r0 := x_r.fr 0; replace f_r1 := x_r.fr 1
    go_wp2_with fail
    with_reducible refine (signed_any false A1 n1 c1 DV _ 1000 g1 HSM.out).mono ?_
    rintro e v2 ⟨rfl, z1, hb1⟩
    replace x_r := x_r.keep hb1
    replace g1 := g1.go hb1
    replace hb := bthen hb hb1
    clear hb1
    replace q_r0 := x_r.c0; replace q_r1 := x_r.c1; replace f_r0 := x_r.fr 0; replace f_r1 := x_r.fr 1
    go_wp2
    replace g1 := g1.sput (b' := (ngB (zi false DV))) (A' := A1) (n' := n1) (c' := c1) x_r
    replace z1 := z1.put (b' := (ngB (zi false DV))) (A' := A1) (n' := n1) (c' := c1) x_r
    replace hb := put_below (g := w.heap.size) hb (by omega) (.bool (ngB (zi false DV))) (.slice A1 n1 c1)
    replace x_r := x_r.put (ngB (zi false DV)) A1 n1 c1
    clear q_r0 q_r1 f_r0 f_r1
    generalize (v2.setCell ⟨w.heap.size, 0, none⟩ (.bool (ngB (zi false DV)))).setCell ⟨w.heap.size, 1, none⟩ (.slice A1 n1 c1) = v3 at *
    have q_r0 := x_r.c0; have q_r1 := x_r.c1; have f_r0 := x_r.fr 0; have f_r1 := x_r.fr 1
    refine bodyPost_ret (v := .tuple #[.agg #[.bool (ngB (zi false DV)), .slice A1 n1 c1], .bool true]) (by simp [results, Try.results21, go_sem, q_r0, q_r1]) rfl ?_
    exact ⟨_, _, _, rfl, z1, hb⟩

set_option maxRecDepth 100000 in
set_option maxHeartbeats 4000000 in
theorem ZParse_no (s : ByteArray) {w : World} (hs : s.size ≤ 1000) (hok : okD (sgT s.data.toList) = false) :
    Calls Try.prog 21 #[.string s] w fun e w' => e = .returned (.tuple #[.agg #[.bool false, .slice none 0 0], .bool false]) ∧ Below w.heap.size w w' := by
  have HOK := Lib.hid hok; clear hok
  rcases sg_cases s with ⟨h0, hsB, hsT⟩ | ⟨h0, hb0, hsB, hsT⟩ | ⟨h0, hb0, hsB, hsT⟩
  · have hs0 : ¬ (0 : Int) < s.size := by omega
    rw [hsT] at HOK
    clear hsT hsB h0
    go_enter Try.func21, Try.ntmps21
    go_wp2_with fail
    obtain ⟨hb, x_r⟩ := box1 w false none 0 0
    generalize w.alloc (.cells #[.bool false, .slice none 0 0] 24) = v1 at *
    have q_r0 := x_r.c0; have q_r1 := x_r.c1; have f_r0 := x_r.fr 0; have f_r1 := x_r.fr 1
    skip
    refine (decimal_any s _ (by omega)).mono ?_
    rintro e w' ⟨rfl, rfl⟩
    rw [HOK.out]
    go_wp2
    replace hb := put_below (g := w.heap.size) hb (by omega) (.bool false) (.slice none 0 0)
    replace x_r := x_r.put false none 0 0
    clear q_r0 q_r1 f_r0 f_r1
    generalize (v1.setCell ⟨w.heap.size, 0, none⟩ (.bool false)).setCell ⟨w.heap.size, 1, none⟩ (.slice none 0 0) = v2 at *
    have q_r0 := x_r.c0; have q_r1 := x_r.c1; have f_r0 := x_r.fr 0; have f_r1 := x_r.fr 1
    refine bodyPost_ret (v := .tuple #[.agg #[.bool false, .slice none 0 0], .bool false]) (by simp [results, Try.results21, go_sem, q_r0, q_r1]) rfl ?_
    exact ⟨rfl, hb⟩
  · obtain ⟨t, ht⟩ : ∃ t, s.extract 1 s.size = t := ⟨_, rfl⟩
    rw [ht] at hsT
    rw [← hsT] at HOK
    have hts : t.size ≤ 1000 := by rw [← ht, ByteArray.size_extract]; omega
    have hs1 : 1 ≤ s.size := h0
    clear hsT hsB
    go_enter Try.func21, Try.ntmps21
    go_wp2_with fail
    obtain ⟨hb, x_r⟩ := box1 w false none 0 0
    generalize w.alloc (.cells #[.bool false, .slice none 0 0] 24) = v1 at *
    have q_r0 := x_r.c0; have q_r1 := x_r.c1; have f_r0 := x_r.fr 0; have f_r1 := x_r.fr 1
    skip
    refine (decimal_any t _ (by omega)).mono ?_
    rintro e w' ⟨rfl, rfl⟩
    rw [HOK.out]
    go_wp2
    replace hb := put_below (g := w.heap.size) hb (by omega) (.bool false) (.slice none 0 0)
    replace x_r := x_r.put false none 0 0
    clear q_r0 q_r1 f_r0 f_r1
    generalize (v1.setCell ⟨w.heap.size, 0, none⟩ (.bool false)).setCell ⟨w.heap.size, 1, none⟩ (.slice none 0 0) = v2 at *
    have q_r0 := x_r.c0; have q_r1 := x_r.c1; have f_r0 := x_r.fr 0; have f_r1 := x_r.fr 1
    refine bodyPost_ret (v := .tuple #[.agg #[.bool false, .slice none 0 0], .bool false]) (by simp [results, Try.results21, go_sem, q_r0, q_r1]) rfl ?_
    exact ⟨rfl, hb⟩
  · rw [hsT] at HOK
    clear hsT hsB
    go_enter Try.func21, Try.ntmps21
    go_wp2_with fail
    obtain ⟨hb, x_r⟩ := box1 w false none 0 0
    generalize w.alloc (.cells #[.bool false, .slice none 0 0] 24) = v1 at *
    have q_r0 := x_r.c0; have q_r1 := x_r.c1; have f_r0 := x_r.fr 0; have f_r1 := x_r.fr 1
    skip
    refine (decimal_any s _ (by omega)).mono ?_
    rintro e w' ⟨rfl, rfl⟩
    rw [HOK.out]
    go_wp2
    replace hb := put_below (g := w.heap.size) hb (by omega) (.bool false) (.slice none 0 0)
    replace x_r := x_r.put false none 0 0
    clear q_r0 q_r1 f_r0 f_r1
    generalize (v1.setCell ⟨w.heap.size, 0, none⟩ (.bool false)).setCell ⟨w.heap.size, 1, none⟩ (.slice none 0 0) = v2 at *
    have q_r0 := x_r.c0; have q_r1 := x_r.c1; have f_r0 := x_r.fr 0; have f_r1 := x_r.fr 1
    refine bodyPost_ret (v := .tuple #[.agg #[.bool false, .slice none 0 0], .bool false]) (by simp [results, Try.results21, go_sem, q_r0, q_r1]) rfl ?_
    exact ⟨rfl, hb⟩

end Go.Proofs.Ytcoidcbbdibnaaa
