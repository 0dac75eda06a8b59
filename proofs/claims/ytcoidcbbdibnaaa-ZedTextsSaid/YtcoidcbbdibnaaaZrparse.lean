/-
  The document's answer for zed: Parse.
-/
import Derived.Test.YtcoidcbbdibnaaaZref
import Derived.Test.YtcoidcbbdibnaaaZparse
import Derived.Test.YtcoidcbbdibnaaaRmul
import Derived.Deep.DeepCutAuto
namespace Go.Proofs.Ytcoidcbbdibnaaa
open Go.RowKit
set_option linter.unusedVariables false

/-- What Parse hands back. -/
def PsPost (w : World) (l : List UInt8) (e : Ending) (w' : World) : Prop :=
  (okD (sgT l) = true ∧ RdPost w (zi (sgB l) (dv (sgT l))) 1000 e w') ∨ (okD (sgT l) = false ∧ e = .returned (.tuple #[.agg #[.bool false, .slice none 0 0], .bool false]) ∧ Below w.heap.size w w')
/-- What the loop of Parse keeps. -/
def PsRel (w : World) (g : Nat) (t : List UInt8) (k : Nat) (mv : Value) (wr : World) : Prop :=
  ∃ B n d, mv = .slice B n d ∧ Rd wr wr.heap.size B n d (dg Wd (dv (t.take k))) ∧ (∀ c ∈ t.take k, isD c = true) ∧ n ≤ 1000 ∧ Bx wr g false none 0 0 ∧ Below w.heap.size w wr
theorem Sm10 : Sm 10 1 := by unfold Sm; rw [Nat.pow_one, Wd_eq]; omega
theorem isD_of {c : UInt8} {x : Int} (hx : (c.toNat : Int) = x) (h0 : 48 ≤ x) (h1 : x ≤ 57) : isD c = true := by unfold isD; exact decide_eq_true (by omega)
theorem isD_not {c : UInt8} {x : Int} (hx : (c.toNat : Int) = x) (h : x < 48 ∨ 57 < x) : isD c = false := by unfold isD; exact decide_eq_false (by omega)
theorem okD_not {l : List UInt8} {k : Nat} (hk : k < l.length) (h : isD l[k] = false) : okD l = false := by
  unfold okD
  rw [Bool.and_eq_false_iff]; right
  rw [List.all_eq_false]
  exact ⟨_, List.getElem_mem hk, by rw [h]; simp⟩
theorem okD_yes {l : List UInt8} (h0 : 0 < l.length) (h : ∀ c ∈ l, isD c = true) : okD l = true := by
  unfold okD
  rw [Bool.and_eq_true, List.all_eq_true]
  exact ⟨by cases l with | nil => simp at h0 | cons => rfl, h⟩
theorem take_dv {l : List UInt8} {k : Nat} (hk : k < l.length) : dv (l.take (k + 1)) = dv (l.take k) * 10 + (l[k].toNat - 48) := by
  rw [List.take_succ_eq_append_getElem hk, dv_snoc]
theorem take_isD {l : List UInt8} {k : Nat} (hk : k < l.length) (h : ∀ c ∈ l.take k, isD c = true) (hd : isD l[k] = true) : ∀ c ∈ l.take (k + 1), isD c = true := by
  rw [List.take_succ_eq_append_getElem hk]
  intro c hc
  rw [List.mem_append] at hc
  rcases hc with hc | hc
  · exact h c hc
  · simp at hc; subst hc; exact hd
theorem Rd.two {w : World} {A : Option Addr} {n c : Nat} {l : List Int} (h : Rd w w.heap.size A n c l) (o p : Obj) : Rd ((w.alloc o).alloc p) ((w.alloc o).alloc p).heap.size A n c l := h.go (below_alloc2 w o p)
theorem Rd.one {w : World} {A : Option Addr} {n c : Nat} {l : List Int} (h : Rd w w.heap.size A n c l) (o : Obj) : Rd (w.alloc o) (w.alloc o).heap.size A n c l := h.go (below_alloc w o)
theorem lay2 (w : World) (o : Obj) (x : Int) (hx : Lm x) : Rd ((w.alloc o).alloc (.cells #[.int .u64 x] 29)) ((w.alloc o).alloc (.cells #[.int .u64 x] 29)).heap.size (some ⟨w.heap.size + 1, 0, none⟩) 1 1 [x] := by
  have := lay1 (w.alloc o) x hx
  simpa using this
theorem lay0 (w : World) (p : Obj) (x : Int) (hx : Lm x) : Rd ((w.alloc (.cells #[.int .u64 x] 29)).alloc p) ((w.alloc (.cells #[.int .u64 x] 29)).alloc p).heap.size (some ⟨w.heap.size, 0, none⟩) 1 1 [x] := (lay1 w x hx).one p

set_option maxRecDepth 100000 in
set_option maxHeartbeats 8000000 in
theorem RParse_zed (s : ByteArray) {w : World} (hs : s.size ≤ 900) :
    Calls Try.prog 22 #[.string s] w (PsPost w s.data.toList) := by
  rcases sg_cases s with ⟨h0, hsB, hsT⟩ | ⟨h0, hb0, hsB, hsT⟩ | ⟨h0, hb0, hsB, hsT⟩
  · have hs0 : ¬ (0 : Int) < s.size := by omega
    have hnil : s.data.toList = [] := List.eq_nil_of_length_eq_zero (by rw [Array.length_toList]; exact h0)
    have he : s.toList.isEmpty = true := by rw [ByteArray.toList_eq, hnil]; rfl
    have HOK : Hid (okD (sgT s.data.toList) = false) := Lib.hid (by rw [hsT, hnil]; rfl)
    clear hsT hsB h0 hnil
    go_enter Try.func22, Try.ntmps22
    go_wp2_with fail
    obtain ⟨hb, x_r⟩ := box1 w false none 0 0
    generalize w.alloc (.cells #[.bool false, .slice none 0 0] 24) = v1 at *
    have q_r0 := x_r.c0; have q_r1 := x_r.c1; have f_r0 := x_r.fr 0; have f_r1 := x_r.fr 1
    skip
    refine bodyPost_ret (v := .tuple #[.agg #[.bool false, .slice none 0 0], .bool false]) (by simp [results, Try.results22, go_sem, q_r0, q_r1]) rfl ?_
    exact .inr ⟨HOK.out, rfl, hb⟩
  · obtain ⟨t, ht⟩ : ∃ t, s.extract 1 s.size = t := ⟨_, rfl⟩
    rw [ht] at hsT
    have hts : t.size ≤ 900 := by rw [← ht, ByteArray.size_extract]; omega
    have hs1 : 1 ≤ s.size := h0
    have HP : ∀ e w', PsPost w s.data.toList e w' = ((okD t.data.toList = true ∧ RdPost w (zi true (dv t.data.toList)) 1000 e w') ∨ (okD t.data.toList = false ∧ e = .returned (.tuple #[.agg #[.bool false, .slice none 0 0], .bool false]) ∧ Below w.heap.size w w')) := fun e w' => by unfold PsPost; rw [hsB, ← hsT]
    rw [show PsPost w s.data.toList = _ from funext fun e => funext fun w' => HP e w']
    clear HP hsT hsB
    have hlen : t.data.toList.length = t.size := by rw [Array.length_toList]; rfl
    have HL := Lib.hid hlen; clear hlen
    rcases Nat.eq_zero_or_pos t.size with ht0 | ht0
    · have hnil : t.data.toList = [] := List.eq_nil_of_length_eq_zero (HL.out.trans ht0)
      have he : t.toList.isEmpty = true := by rw [ByteArray.toList_eq, hnil]; rfl
      have HOK : Hid (okD t.data.toList = false) := Lib.hid (by rw [hnil]; rfl)
      clear hnil
      go_enter Try.func22, Try.ntmps22
      go_wp2_with fail
      obtain ⟨hb, x_r⟩ := box1 w false none 0 0
      generalize w.alloc (.cells #[.bool false, .slice none 0 0] 24) = v1 at *
      have q_r0 := x_r.c0; have q_r1 := x_r.c1; have f_r0 := x_r.fr 0; have f_r1 := x_r.fr 1
      skip
      refine bodyPost_ret (v := .tuple #[.agg #[.bool false, .slice none 0 0], .bool false]) (by simp [results, Try.results22, go_sem, q_r0, q_r1]) rfl ?_
      exact .inr ⟨HOK.out, rfl, hb⟩
    · have he : t.toList.isEmpty = false := by
        rw [ByteArray.toList_eq]
        cases hl : t.data.toList with
        | nil => have := HL.out; rw [hl] at this; exact absurd this (by simp; omega)
        | cons _ _ => rfl
      go_enter Try.func22, Try.ntmps22
      go_wp2_with fail
      obtain ⟨hb, x_r⟩ := box1 w false none 0 0
      generalize w.alloc (.cells #[.bool false, .slice none 0 0] 24) = v1 at *
      have q_r0 := x_r.c0; have q_r1 := x_r.c1; have f_r0 := x_r.fr 0; have f_r1 := x_r.fr 1
      go_wp2_with fail
      go_loopw [5, 6] (fun mv iv wr => ∃ k : Nat, k ≤ t.size ∧ iv = .int .i64 k ∧ PsRel w w.heap.size t.data.toList k mv wr) (fun _ iv _ => t.size - (intOf iv).toNat)
      case atStart => exact ⟨0, Nat.zero_le _, rfl, _, _, _, rfl, (by show Rd _ _ _ _ _ (dg Wd 0); rw [dg_zero]; exact Rd.nil), (by simp), by omega, x_r, hb⟩
      case round =>
        clear hb x_r q_r0 q_r1 f_r0 f_r1
        obtain ⟨k, hk, rfl, B, n, d, rfl, g, hal, hn, x_r, hb⟩ := hrel
        have q_r0 := x_r.c0; have q_r1 := x_r.c1; have f_r0 := x_r.fr 0; have f_r1 := x_r.fr 1
        have HAL := Lib.hid hal; clear hal
        by_cases hkn : k < t.size
        · have hkl : k < t.data.toList.length := by have := HL.out; omega
          have hbj : t.data.toList[k] = t[k] := rfl
          have hcb : t[k].toNat < 256 := UInt8.toNat_lt t[k]
          have hdv := take_dv hkl
          have hisd := take_isD hkl HAL.out
          have hnot := fun h => okD_not hkl h
          rw [hbj] at hdv hisd hnot
          have hD1 : 48 ≤ (t[k].toNat : Int) → (t[k].toNat : Int) ≤ 57 → isD t[k] = true := fun a b => isD_of rfl a b
          have hD2 : ((t[k].toNat : Int) < 48 ∨ 57 < (t[k].toNat : Int)) → isD t[k] = false := fun a => isD_not rfl a
          generalize hce : (t[k].toNat : Int) = c at *
          have hc0 : 0 ≤ c := by omega
          have hc255 : c ≤ 255 := by omega
          have hc9 : t[k].toNat - 48 = (c - 48).toNat := by omega
          rw [hc9] at hdv
          clear hc9 hbj
          rcases (show (c < 48 ∨ 57 < c) ∨ (48 ≤ c ∧ c ≤ 57) by omega) with hbad | ⟨hg1, hg2⟩
          · have HOK := Lib.hid (hnot (hD2 hbad))
            clear hnot hD1 hD2 hdv hisd
            rcases hbad with hbad | hbad
            · clear hcb
              go_wp2
              replace g := g.sput (b' := false) (A' := none) (n' := 0) (c' := 0) x_r
              replace hb := put_below (g := w.heap.size) hb (by omega) (.bool false) (.slice none 0 0)
              replace x_r := x_r.put false none 0 0
              clear q_r0 q_r1 f_r0 f_r1
              generalize (wr.setCell ⟨w.heap.size, 0, none⟩ (.bool false)).setCell ⟨w.heap.size, 1, none⟩ (.slice none 0 0) = v2 at *
              have q_r0 := x_r.c0; have q_r1 := x_r.c1; have f_r0 := x_r.fr 0; have f_r1 := x_r.fr 1
              refine bodyPost_ret (v := .tuple #[.agg #[.bool false, .slice none 0 0], .bool false]) (by simp [results, Try.results22, go_sem, q_r0, q_r1]) rfl ?_
              exact .inr ⟨HOK.out, rfl, hb⟩
            · clear hcb
              go_wp2
              replace g := g.sput (b' := false) (A' := none) (n' := 0) (c' := 0) x_r
              replace hb := put_below (g := w.heap.size) hb (by omega) (.bool false) (.slice none 0 0)
              replace x_r := x_r.put false none 0 0
              clear q_r0 q_r1 f_r0 f_r1
              generalize (wr.setCell ⟨w.heap.size, 0, none⟩ (.bool false)).setCell ⟨w.heap.size, 1, none⟩ (.slice none 0 0) = v2 at *
              have q_r0 := x_r.c0; have q_r1 := x_r.c1; have f_r0 := x_r.fr 0; have f_r1 := x_r.fr 1
              refine bodyPost_ret (v := .tuple #[.agg #[.bool false, .slice none 0 0], .bool false]) (by simp [results, Try.results22, go_sem, q_r0, q_r1]) rfl ?_
              exact .inr ⟨HOK.out, rfl, hb⟩
          · have hisd := hisd (hD1 hg1 hg2)
            have HISD := Lib.hid hisd; have HDV := Lib.hid hdv
            clear hnot hD1 hD2 hdv hisd hcb
            have e1 : IntKind.u8.wrap (c - 48) = c - 48 := by simp only [IntKind.wrap, IntKind.signed, IntKind.bits]; simp; omega
            have e2 : IntKind.u64.wrap (c - 48) = c - 48 := by rw [wrap_u64]; omega
            generalize hd9 : c - 48 = dd at *
            have hdd : Lm dd := lm_small (by omega) (by omega)
            have HSM : Hid (Sm (dv (t.data.toList.take (k + 1))) 1000) := Lib.hid (Sm_dv HISD.out (by rw [List.length_take]; omega))
            have HSM0 : Hid (Sm (dv (t.data.toList.take k)) 1000) := Lib.hid (Sm_dv HAL.out (by rw [List.length_take]; omega))
            have HSM1 : Hid (Sm (dv (t.data.toList.take k) * 10) 1001) := Lib.hid (HSM0.out.mul Sm10)
            go_upto_region 12 with fail
            have fin : ∀ A9 n9 c9 W9, Rd W9 W9.heap.size A9 n9 c9 (dg Wd (dv (t.data.toList.take k) * 10 + dd.toNat)) → Bx W9 w.heap.size false none 0 0 → Below w.heap.size w W9 → PsRel w w.heap.size t.data.toList (k + 1) (.slice A9 n9 c9) W9 := fun A9 n9 c9 W9 r x b => ⟨_, _, _, rfl, by rw [HDV.out]; exact r, HISD.out, (show Rd W9 W9.heap.size A9 n9 c9 (dg Wd (dv (t.data.toList.take (k + 1)))) by rw [HDV.out]; exact r).small HSM.out, x, b⟩
            go_region_with ((first | (go_at_call 44; (with_reducible refine (RMul_any _ _ _ _ _ _ _ _ _ (g.one _).drw (lay1 wr 10 (lm_small (by omega) (by omega))).drw (by omega) (by omega)).mono ?_); rintro e v5 ⟨A5, n5, c5, rfl, g5, hb1⟩; rw [vl_dg Wd2, vl_one, show (10 : Int).toNat = 10 from rfl] at g5; have hn5 := g5.small HSM1.out; replace hb1 := undrew hb1; have dsl := True.intro; replace x_r := (x_r.alloc _).keep hb1; replace hb := bthen (bthen hb (below_alloc _ _)) hb1; clear hb1) | (go_at_call 44; (with_reducible refine (RMul_any _ _ _ _ _ _ _ _ _ (g.two _ _).drw (lay2 wr _ 10 (lm_small (by omega) (by omega))).drw (by omega) (by omega)).mono ?_); rintro e v5 ⟨A5, n5, c5, rfl, g5, hb1⟩; rw [vl_dg Wd2, vl_one, show (10 : Int).toNat = 10 from rfl] at g5; have hn5 := g5.small HSM1.out; replace hb1 := undrew hb1; have dsl := (lay0 wr (.cells #[.int .u64 10] 29) dd hdd).go hb1; replace x_r := ((x_r.alloc _).alloc _).keep hb1; replace hb := bthen (bthen hb (below_alloc2 _ _ _)) hb1; clear hb1) | (go_at_call 44; (with_reducible refine (RMul_any _ _ _ _ _ _ _ _ _ (g.two _ _).drw (lay0 wr _ 10 (lm_small (by omega) (by omega))).drw (by omega) (by omega)).mono ?_); rintro e v5 ⟨A5, n5, c5, rfl, g5, hb1⟩; rw [vl_dg Wd2, vl_one, show (10 : Int).toNat = 10 from rfl] at g5; have hn5 := g5.small HSM1.out; replace hb1 := undrew hb1; have dsl := (lay2 wr (.cells #[.int .u64 10] 29) dd hdd).go hb1; replace x_r := ((x_r.alloc _).alloc _).keep hb1; replace hb := bthen (bthen hb (below_alloc2 _ _ _)) hb1; clear hb1) | (go_at_call 43; (with_reducible refine (RAdd_any _ _ _ _ _ _ _ _ _ g5 dsl (by omega) (by omega)).mono ?_); rintro e v6 ⟨A6, n6, c6, rfl, g6, hb1⟩; rw [vl_dg Wd2, vl_one] at g6; replace x_r := x_r.keep hb1; replace hb := bthen hb hb1; clear hb1) | (go_at_call 43; (with_reducible refine (RAdd_any _ _ _ _ _ _ _ _ _ (g5.one _) (lay1 _ dd hdd) (by omega) (by omega)).mono ?_); rintro e v6 ⟨A6, n6, c6, rfl, g6, hb1⟩; rw [vl_dg Wd2, vl_one] at g6; replace x_r := (x_r.alloc _).keep hb1; replace hb := bthen (bthen hb (below_alloc _ _)) hb1; clear hb1)))
            all_goals (go_wp2; go_roundw; (case rel => exact ⟨k + 1, by omega, by go_num, fin _ _ _ _ g6 x_r hb⟩); (case measure => simp [intOf]; omega))
        · have hkt : t.data.toList.take k = t.data.toList := List.take_of_length_le (by have := HL.out; omega)
          rw [hkt] at g HAL
          have HOK := Lib.hid (okD_yes (by have := HL.out; omega) HAL.out)
          have HSM := Lib.hid (Sm_dv (k := 1000) HAL.out (by have := HL.out; omega))
          clear hkt
          generalize hDV : dv t.data.toList = DV at *
          have HDVE := Lib.hid hDV; clear hDV
          go_wp2_with fail
          with_reducible refine (RMake_any (b := true) g DV 1000 (vl_dg Wd2 _) HSM.out (by omega)).mono ?_
          rintro e v2 ⟨A1, n1, c1, rfl, z1, hb1⟩
          replace x_r := x_r.keep hb1
          replace g := g.go hb1
          replace hb := bthen hb hb1
          clear hb1
          replace q_r0 := x_r.c0; replace q_r1 := x_r.c1; replace f_r0 := x_r.fr 0; replace f_r1 := x_r.fr 1
          go_wp2
          replace g := g.sput (b' := (ngB (zi true DV))) (A' := A1) (n' := n1) (c' := c1) x_r
          replace z1 := z1.put (b' := (ngB (zi true DV))) (A' := A1) (n' := n1) (c' := c1) x_r
          replace hb := put_below (g := w.heap.size) hb (by omega) (.bool (ngB (zi true DV))) (.slice A1 n1 c1)
          replace x_r := x_r.put (ngB (zi true DV)) A1 n1 c1
          clear q_r0 q_r1 f_r0 f_r1
          generalize (v2.setCell ⟨w.heap.size, 0, none⟩ (.bool (ngB (zi true DV)))).setCell ⟨w.heap.size, 1, none⟩ (.slice A1 n1 c1) = v3 at *
          have q_r0 := x_r.c0; have q_r1 := x_r.c1; have f_r0 := x_r.fr 0; have f_r1 := x_r.fr 1
          refine bodyPost_ret (v := .tuple #[.agg #[.bool (ngB (zi true DV)), .slice A1 n1 c1], .bool true]) (by simp [results, Try.results22, go_sem, q_r0, q_r1]) rfl ?_
          exact .inl ⟨HOK.out, by rw [HDVE.out]; exact ⟨_, _, _, rfl, z1, hb⟩⟩
  · replace hsT := hsT.symm
    have hts := hs
    have HP : ∀ e w', PsPost w s.data.toList e w' = ((okD s.data.toList = true ∧ RdPost w (zi false (dv s.data.toList)) 1000 e w') ∨ (okD s.data.toList = false ∧ e = .returned (.tuple #[.agg #[.bool false, .slice none 0 0], .bool false]) ∧ Below w.heap.size w w')) := fun e w' => by unfold PsPost; rw [hsB, ← hsT]
    rw [show PsPost w s.data.toList = _ from funext fun e => funext fun w' => HP e w']
    clear HP hsT hsB
    have hlen : s.data.toList.length = s.size := by rw [Array.length_toList]; rfl
    have HL := Lib.hid hlen; clear hlen
    rcases Nat.eq_zero_or_pos s.size with ht0 | ht0
    · exfalso; omega
    · have he : s.toList.isEmpty = false := by
        rw [ByteArray.toList_eq]
        cases hl : s.data.toList with
        | nil => have := HL.out; rw [hl] at this; exact absurd this (by simp; omega)
        | cons _ _ => rfl
      go_enter Try.func22, Try.ntmps22
      go_wp2_with fail
      obtain ⟨hb, x_r⟩ := box1 w false none 0 0
      generalize w.alloc (.cells #[.bool false, .slice none 0 0] 24) = v1 at *
      have q_r0 := x_r.c0; have q_r1 := x_r.c1; have f_r0 := x_r.fr 0; have f_r1 := x_r.fr 1
      go_wp2_with fail
      go_loopw [5, 6] (fun mv iv wr => ∃ k : Nat, k ≤ s.size ∧ iv = .int .i64 k ∧ PsRel w w.heap.size s.data.toList k mv wr) (fun _ iv _ => s.size - (intOf iv).toNat)
      case atStart => exact ⟨0, Nat.zero_le _, rfl, _, _, _, rfl, (by show Rd _ _ _ _ _ (dg Wd 0); rw [dg_zero]; exact Rd.nil), (by simp), by omega, x_r, hb⟩
      case round =>
        clear hb x_r q_r0 q_r1 f_r0 f_r1
        obtain ⟨k, hk, rfl, B, n, d, rfl, g, hal, hn, x_r, hb⟩ := hrel
        have q_r0 := x_r.c0; have q_r1 := x_r.c1; have f_r0 := x_r.fr 0; have f_r1 := x_r.fr 1
        have HAL := Lib.hid hal; clear hal
        by_cases hkn : k < s.size
        · have hkl : k < s.data.toList.length := by have := HL.out; omega
          have hbj : s.data.toList[k] = s[k] := rfl
          have hcb : s[k].toNat < 256 := UInt8.toNat_lt s[k]
          have hdv := take_dv hkl
          have hisd := take_isD hkl HAL.out
          have hnot := fun h => okD_not hkl h
          rw [hbj] at hdv hisd hnot
          have hD1 : 48 ≤ (s[k].toNat : Int) → (s[k].toNat : Int) ≤ 57 → isD s[k] = true := fun a b => isD_of rfl a b
          have hD2 : ((s[k].toNat : Int) < 48 ∨ 57 < (s[k].toNat : Int)) → isD s[k] = false := fun a => isD_not rfl a
          generalize hce : (s[k].toNat : Int) = c at *
          have hc0 : 0 ≤ c := by omega
          have hc255 : c ≤ 255 := by omega
          have hc9 : s[k].toNat - 48 = (c - 48).toNat := by omega
          rw [hc9] at hdv
          clear hc9 hbj
          rcases (show (c < 48 ∨ 57 < c) ∨ (48 ≤ c ∧ c ≤ 57) by omega) with hbad | ⟨hg1, hg2⟩
          · have HOK := Lib.hid (hnot (hD2 hbad))
            clear hnot hD1 hD2 hdv hisd
            rcases hbad with hbad | hbad
            · clear hcb
              go_wp2
              replace g := g.sput (b' := false) (A' := none) (n' := 0) (c' := 0) x_r
              replace hb := put_below (g := w.heap.size) hb (by omega) (.bool false) (.slice none 0 0)
              replace x_r := x_r.put false none 0 0
              clear q_r0 q_r1 f_r0 f_r1
              generalize (wr.setCell ⟨w.heap.size, 0, none⟩ (.bool false)).setCell ⟨w.heap.size, 1, none⟩ (.slice none 0 0) = v2 at *
              have q_r0 := x_r.c0; have q_r1 := x_r.c1; have f_r0 := x_r.fr 0; have f_r1 := x_r.fr 1
              refine bodyPost_ret (v := .tuple #[.agg #[.bool false, .slice none 0 0], .bool false]) (by simp [results, Try.results22, go_sem, q_r0, q_r1]) rfl ?_
              exact .inr ⟨HOK.out, rfl, hb⟩
            · clear hcb
              go_wp2
              replace g := g.sput (b' := false) (A' := none) (n' := 0) (c' := 0) x_r
              replace hb := put_below (g := w.heap.size) hb (by omega) (.bool false) (.slice none 0 0)
              replace x_r := x_r.put false none 0 0
              clear q_r0 q_r1 f_r0 f_r1
              generalize (wr.setCell ⟨w.heap.size, 0, none⟩ (.bool false)).setCell ⟨w.heap.size, 1, none⟩ (.slice none 0 0) = v2 at *
              have q_r0 := x_r.c0; have q_r1 := x_r.c1; have f_r0 := x_r.fr 0; have f_r1 := x_r.fr 1
              refine bodyPost_ret (v := .tuple #[.agg #[.bool false, .slice none 0 0], .bool false]) (by simp [results, Try.results22, go_sem, q_r0, q_r1]) rfl ?_
              exact .inr ⟨HOK.out, rfl, hb⟩
          · have hisd := hisd (hD1 hg1 hg2)
            have HISD := Lib.hid hisd; have HDV := Lib.hid hdv
            clear hnot hD1 hD2 hdv hisd hcb
            have e1 : IntKind.u8.wrap (c - 48) = c - 48 := by simp only [IntKind.wrap, IntKind.signed, IntKind.bits]; simp; omega
            have e2 : IntKind.u64.wrap (c - 48) = c - 48 := by rw [wrap_u64]; omega
            generalize hd9 : c - 48 = dd at *
            have hdd : Lm dd := lm_small (by omega) (by omega)
            have HSM : Hid (Sm (dv (s.data.toList.take (k + 1))) 1000) := Lib.hid (Sm_dv HISD.out (by rw [List.length_take]; omega))
            have HSM0 : Hid (Sm (dv (s.data.toList.take k)) 1000) := Lib.hid (Sm_dv HAL.out (by rw [List.length_take]; omega))
            have HSM1 : Hid (Sm (dv (s.data.toList.take k) * 10) 1001) := Lib.hid (HSM0.out.mul Sm10)
            go_upto_region 12 with fail
            have fin : ∀ A9 n9 c9 W9, Rd W9 W9.heap.size A9 n9 c9 (dg Wd (dv (s.data.toList.take k) * 10 + dd.toNat)) → Bx W9 w.heap.size false none 0 0 → Below w.heap.size w W9 → PsRel w w.heap.size s.data.toList (k + 1) (.slice A9 n9 c9) W9 := fun A9 n9 c9 W9 r x b => ⟨_, _, _, rfl, by rw [HDV.out]; exact r, HISD.out, (show Rd W9 W9.heap.size A9 n9 c9 (dg Wd (dv (s.data.toList.take (k + 1)))) by rw [HDV.out]; exact r).small HSM.out, x, b⟩
            go_region_with ((first | (go_at_call 44; (with_reducible refine (RMul_any _ _ _ _ _ _ _ _ _ (g.one _).drw (lay1 wr 10 (lm_small (by omega) (by omega))).drw (by omega) (by omega)).mono ?_); rintro e v5 ⟨A5, n5, c5, rfl, g5, hb1⟩; rw [vl_dg Wd2, vl_one, show (10 : Int).toNat = 10 from rfl] at g5; have hn5 := g5.small HSM1.out; replace hb1 := undrew hb1; have dsl := True.intro; replace x_r := (x_r.alloc _).keep hb1; replace hb := bthen (bthen hb (below_alloc _ _)) hb1; clear hb1) | (go_at_call 44; (with_reducible refine (RMul_any _ _ _ _ _ _ _ _ _ (g.two _ _).drw (lay2 wr _ 10 (lm_small (by omega) (by omega))).drw (by omega) (by omega)).mono ?_); rintro e v5 ⟨A5, n5, c5, rfl, g5, hb1⟩; rw [vl_dg Wd2, vl_one, show (10 : Int).toNat = 10 from rfl] at g5; have hn5 := g5.small HSM1.out; replace hb1 := undrew hb1; have dsl := (lay0 wr (.cells #[.int .u64 10] 29) dd hdd).go hb1; replace x_r := ((x_r.alloc _).alloc _).keep hb1; replace hb := bthen (bthen hb (below_alloc2 _ _ _)) hb1; clear hb1) | (go_at_call 44; (with_reducible refine (RMul_any _ _ _ _ _ _ _ _ _ (g.two _ _).drw (lay0 wr _ 10 (lm_small (by omega) (by omega))).drw (by omega) (by omega)).mono ?_); rintro e v5 ⟨A5, n5, c5, rfl, g5, hb1⟩; rw [vl_dg Wd2, vl_one, show (10 : Int).toNat = 10 from rfl] at g5; have hn5 := g5.small HSM1.out; replace hb1 := undrew hb1; have dsl := (lay2 wr (.cells #[.int .u64 10] 29) dd hdd).go hb1; replace x_r := ((x_r.alloc _).alloc _).keep hb1; replace hb := bthen (bthen hb (below_alloc2 _ _ _)) hb1; clear hb1) | (go_at_call 43; (with_reducible refine (RAdd_any _ _ _ _ _ _ _ _ _ g5 dsl (by omega) (by omega)).mono ?_); rintro e v6 ⟨A6, n6, c6, rfl, g6, hb1⟩; rw [vl_dg Wd2, vl_one] at g6; replace x_r := x_r.keep hb1; replace hb := bthen hb hb1; clear hb1) | (go_at_call 43; (with_reducible refine (RAdd_any _ _ _ _ _ _ _ _ _ (g5.one _) (lay1 _ dd hdd) (by omega) (by omega)).mono ?_); rintro e v6 ⟨A6, n6, c6, rfl, g6, hb1⟩; rw [vl_dg Wd2, vl_one] at g6; replace x_r := (x_r.alloc _).keep hb1; replace hb := bthen (bthen hb (below_alloc _ _)) hb1; clear hb1)))
            all_goals (go_wp2; go_roundw; (case rel => exact ⟨k + 1, by omega, by go_num, fin _ _ _ _ g6 x_r hb⟩); (case measure => simp [intOf]; omega))
        · have hkt : s.data.toList.take k = s.data.toList := List.take_of_length_le (by have := HL.out; omega)
          rw [hkt] at g HAL
          have HOK := Lib.hid (okD_yes (by have := HL.out; omega) HAL.out)
          have HSM := Lib.hid (Sm_dv (k := 1000) HAL.out (by have := HL.out; omega))
          clear hkt
          generalize hDV : dv s.data.toList = DV at *
          have HDVE := Lib.hid hDV; clear hDV
          go_wp2_with fail
          with_reducible refine (RMake_any (b := false) g DV 1000 (vl_dg Wd2 _) HSM.out (by omega)).mono ?_
          rintro e v2 ⟨A1, n1, c1, rfl, z1, hb1⟩
          replace x_r := x_r.keep hb1
          replace g := g.go hb1
          replace hb := bthen hb hb1
          clear hb1
          replace q_r0 := x_r.c0; replace q_r1 := x_r.c1; replace f_r0 := x_r.fr 0; replace f_r1 := x_r.fr 1
          go_wp2
          replace g := g.sput (b' := (ngB (zi false DV))) (A' := A1) (n' := n1) (c' := c1) x_r
          replace z1 := z1.put (b' := (ngB (zi false DV))) (A' := A1) (n' := n1) (c' := c1) x_r
          replace hb := put_below (g := w.heap.size) hb (by omega) (.bool (ngB (zi false DV))) (.slice A1 n1 c1)
          replace x_r := x_r.put (ngB (zi false DV)) A1 n1 c1
          clear q_r0 q_r1 f_r0 f_r1
          generalize (v2.setCell ⟨w.heap.size, 0, none⟩ (.bool (ngB (zi false DV)))).setCell ⟨w.heap.size, 1, none⟩ (.slice A1 n1 c1) = v3 at *
          have q_r0 := x_r.c0; have q_r1 := x_r.c1; have f_r0 := x_r.fr 0; have f_r1 := x_r.fr 1
          refine bodyPost_ret (v := .tuple #[.agg #[.bool (ngB (zi false DV)), .slice A1 n1 c1], .bool true]) (by simp [results, Try.results22, go_sem, q_r0, q_r1]) rfl ?_
          exact .inl ⟨HOK.out, by rw [HDVE.out]; exact ⟨_, _, _, rfl, z1, hb⟩⟩

end Go.Proofs.Ytcoidcbbdibnaaa
