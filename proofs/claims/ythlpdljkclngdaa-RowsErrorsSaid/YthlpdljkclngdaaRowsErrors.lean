/-
  The law RowsErrors, as a call.
-/
import Derived.Test.YthlpdljkclngdaaKmask
namespace Go.Proofs.Ythlpdljkclngdaa
open Go.RowKit
set_option linter.unusedVariables false

theorem okB_split (X q m d : Int) : okB X q m d = (decide (0 ≤ q ∧ q ≤ 1200 ∧ 1 ≤ m ∧ m ≤ 400 ∧ 0 ≤ X) && decide (2 * X ≤ d * 2 ^ sc q)) := rfl
theorem sgn_ge_iff {X : Int} : 0 ≤ sgnI X ↔ 0 ≤ X := by
  unfold sgnI
  split
  · constructor <;> intro h <;> omega
  · split <;> constructor <;> intro h <;> omega
theorem sgn_le_iff {X : Int} : sgnI X ≤ 0 ↔ X ≤ 0 := by
  unfold sgnI
  split
  · constructor <;> intro h <;> omega
  · split <;> constructor <;> intro h <;> omega
theorem Lsum_at {b : Bool} {A : Option Addr} {n c : Nat} {X : Int} {j : Nat} {w : World} (h : Zr w b A n c X j) (kind : Nat) (K : Int) (hK : K = (kind : Int)) (hk : kind ≤ 4) (q m : Int) (hj : j ≤ 20) : Calls Try.prog 9 #[.int .i64 K, .agg #[.bool b, .slice A n c], .int .i64 q, .int .i64 m] w (FvPost w kind X q m) := by
  subst hK
  exact Lsum_any h kind hk q m hj
set_option maxRecDepth 100000 in
set_option maxHeartbeats 64000000 in
theorem RowsErrors_any {b : Bool} {A : Option Addr} {n c : Nat} {l : List Int} {q n1 : Int} {w : World} (h : Rd w w.heap.size A n c l) (hq : -9223372036854775808 ≤ q ∧ q ≤ 9223372036854775807) (hn1 : -9223372036854775808 ≤ n1 ∧ n1 ≤ 9223372036854775807) :
    Calls Try.prog 6 #[.agg #[.bool b, .slice A n c], .int .i64 q, .int .i64 n1] w fun e w' => e = .returned (.bool true) ∧ Below w.heap.size w w' := by
  go_enter Try.func6, Try.ntmps6
  go_upto_region 1 with fail
  have x_a : Bx (w.alloc (.cells #[.bool b, .slice A n c] 24)) (w.heap.size) b A n c := by have := Bx.new w b A n c; simpa using this
  have hb : Below w.heap.size w (w.alloc (.cells #[.bool b, .slice A n c] 24)) := (Below.alloc (Below.refl w.heap.size w) (by simp) (.cells #[.bool b, .slice A n c] 24))
  generalize w.alloc (.cells #[.bool b, .slice A n c] 24) = v1 at *
  replace h := h.go hb
  obtain ⟨q_a0, f_a0, q_a1, f_a1⟩ := x_a.al
  go_wp2_with fail
  with_reducible refine (Kshown_any _).mono ?_
  rintro e v2 ⟨rfl, hb1⟩
  replace x_a := x_a.keep hb1
  replace h := h.go hb1
  replace hb := bthen hb hb1
  clear hb1
  clear q_a0 f_a0 q_a1 f_a1; obtain ⟨q_a0, f_a0, q_a1, f_a1⟩ := x_a.al
  go_wp2_with fail
  with_reducible refine (Zcut_at h 20 20 rfl (by omega)).mono ?_
  rintro e v3 ⟨Au, nu, cu, rfl, p_, k_, hb1⟩
  replace x_a := x_a.keep hb1
  replace h := h.go hb1
  replace hb := bthen hb hb1
  clear hb1
  clear q_a0 f_a0 q_a1 f_a1; obtain ⟨q_a0, f_a0, q_a1, f_a1⟩ := x_a.al
  obtain ⟨T, zu⟩ : ∃ X, Zr _ b Au nu cu X 20 := ⟨_, _, p_, rfl, k_⟩
  clear p_ k_
  clear h
  go_upto_region 3 with fail
  replace zu := zu.put (b' := b) (A' := Au) (n' := nu) (c' := cu) x_a
  replace hb := put_below (g := w.heap.size) hb (by omega) (.bool b) (.slice Au nu cu)
  replace x_a := x_a.put b Au nu cu
  clear q_a0 f_a0 q_a1 f_a1
  generalize (v3.setCell ⟨w.heap.size, 0, none⟩ (.bool b)).setCell ⟨w.heap.size, 1, none⟩ (.slice Au nu cu) = v4 at *
  obtain ⟨q_a0, f_a0, q_a1, f_a1⟩ := x_a.al
  go_wp2_with fail
  with_reducible refine (Few_any q n1 _).mono ?_
  rintro e v5 ⟨rfl, hb1⟩
  replace x_a := x_a.keep hb1
  replace zu := zu.keep hb1
  replace hb := bthen hb hb1
  clear hb1
  clear q_a0 f_a0 q_a1 f_a1; obtain ⟨q_a0, f_a0, q_a1, f_a1⟩ := x_a.al
  obtain ⟨N, hN⟩ : ∃ N, fewI q n1 = N := ⟨_, rfl⟩
  rw [hN]
  clear hN
  go_upto_region 5 with fail
  have hrel0 : LoR w b Au nu cu T 20 v5 := ⟨hb, x_a, zu⟩
  clear q_a0 f_a0 q_a1 f_a1
  clear hb x_a zu
  go_loopw [8] (fun kv wr => ∃ k : Nat, k ≤ 5 ∧ kv = .int .i64 (k : Int) ∧ LoR w b Au nu cu T 20 wr) (fun kv _ => 7 - (intOf kv).toNat)
  case atStart => exact ⟨0, by omega, rfl, hrel0⟩
  case round =>
    clear hrel0
    obtain ⟨k, hk, rfl, hb, x_a, z_a⟩ := hrel
    rcases (show k = 0 ∨ k = 1 ∨ k = 2 ∨ k = 3 ∨ k = 4 ∨ k = 5 by omega) with rfl | rfl | rfl | rfl | rfl | rfl
    rotate_right
    · obtain ⟨q_a0, f_a0, q_a1, f_a1⟩ := x_a.al; go_wp2; go_ret; exact ⟨rfl, hb⟩
    · have hsp := okB_split T q N 2
      obtain ⟨K9, hK9⟩ : ∃ e, okB T q N 2 = e := ⟨_, rfl⟩
      obtain ⟨S1, hS1⟩ : ∃ e, sgnI T = e := ⟨_, rfl⟩
      obtain ⟨D2, hD2⟩ : ∃ e, (2 : Int) * 2 ^ sc q = e := ⟨_, rfl⟩
      obtain ⟨S2, hS2⟩ : ∃ e, sgnI (T * 2 ^ sc 1 - D2) = e := ⟨_, rfl⟩
      have i1 : 0 ≤ S1 ↔ 0 ≤ T := by rw [← hS1]; exact sgn_ge_iff
      have i2 : S2 ≤ 0 ↔ 2 * T ≤ D2 := by rw [← hS2, sgn_le_iff, show T * 2 ^ sc 1 = 2 * T by rw [show sc 1 = 1 from rfl]; omega]; omega
      rw [hK9, hD2] at hsp
      have HD2 := Lib.hid hD2; clear hD2
      have HK := Lib.hid hK9; have HS1 := Lib.hid hS1; have HS2 := Lib.hid hS2; clear hK9 hS1 hS2
      rcases (show ¬ 0 ≤ q ∨ (0 ≤ q ∧ ¬ q ≤ 1200) ∨ (0 ≤ q ∧ q ≤ 1200 ∧ ¬ 1 ≤ N) ∨ (0 ≤ q ∧ q ≤ 1200 ∧ 1 ≤ N ∧ ¬ N ≤ 400) ∨ (0 ≤ q ∧ q ≤ 1200 ∧ 1 ≤ N ∧ N ≤ 400 ∧ ¬ 0 ≤ S1) ∨ (0 ≤ q ∧ q ≤ 1200 ∧ 1 ≤ N ∧ N ≤ 400 ∧ 0 ≤ S1 ∧ ¬ S2 ≤ 0) ∨ (0 ≤ q ∧ q ≤ 1200 ∧ 1 ≤ N ∧ N ≤ 400 ∧ 0 ≤ S1 ∧ S2 ≤ 0) by omega) with o1 | ⟨o1, o2⟩ | ⟨o1, o2, o3⟩ | ⟨o1, o2, o3, o4⟩ | ⟨o1, o2, o3, o4, o5⟩ | ⟨o1, o2, o3, o4, o5, o6⟩ | ⟨o1, o2, o3, o4, o5, o6⟩
      · have hkv : K9 = false := by rw [hsp]; simp; omega
        have HKV := Lib.hid hkv
        clear hkv hsp i1 i2
        obtain ⟨q_a0, f_a0, q_a1, f_a1⟩ := x_a.al
        go_wp2_with fail
        with_reducible refine (Lsum_at z_a 0 0 rfl (by omega) q N (by omega)).mono ?_
        rintro e v31 ⟨P, R, x, ⟨A10, n10, c10, A11, n11, c11, rfl, z10, z11, hb1⟩, hc⟩
        replace x_a := x_a.keep hb1
        replace z_a := z_a.keep hb1
        replace hb := bthen hb hb1
        clear hb1
        clear q_a0 f_a0 q_a1 f_a1; obtain ⟨q_a0, f_a0, q_a1, f_a1⟩ := x_a.al
        have hdk : okB T q N (dK 0) = K9 := HK.out
        rw [hdk, HKV.out] at hc
        rcases hc with ⟨hyes, hP, hR, rfl⟩ | ⟨hno, rfl, rfl, rfl⟩
        · cases hyes
        clear hno
        have y_a := ((x_a.alloc (.cells #[.bool (ngB 0), .slice A10 n10 c10] 24)).alloc (.cells #[.bool (ngB 0), .slice A11 n11 c11] 24)); have yq_a0 := y_a.c0; have yq_a1 := y_a.c1
        go_upto_region 19 with fail
        clear y_a yq_a0 yq_a1
        have l_a_c := x_a.lt
        have e_c : w.heap.size ≤ v31.heap.size := hb.size
        have hb1 := below_alloc2 v31 (.cells #[.bool (ngB 0), .slice A10 n10 c10] 24) (.cells #[.bool (ngB 0), .slice A11 n11 c11] 24)
        have x_c := (Bx.new v31 (ngB 0) A10 n10 c10).alloc (.cells #[.bool (ngB 0), .slice A11 n11 c11] 24)
        have x_d : Bx ((v31.alloc (.cells #[.bool (ngB 0), .slice A10 n10 c10] 24)).alloc (.cells #[.bool (ngB 0), .slice A11 n11 c11] 24)) (v31.heap.size + 1) (ngB 0) A11 n11 c11 := by have := Bx.new (v31.alloc (.cells #[.bool (ngB 0), .slice A10 n10 c10] 24)) (ngB 0) A11 n11 c11; simpa using this
        clear q_a0 f_a0 q_a1 f_a1
        replace x_a := x_a.keep hb1
        replace z_a := z_a.keep hb1
        replace z10 := z10.keep hb1
        replace z11 := z11.keep hb1
        replace hb := bthen hb hb1
        clear hb1
        generalize (v31.alloc (.cells #[.bool (ngB 0), .slice A10 n10 c10] 24)).alloc (.cells #[.bool (ngB 0), .slice A11 n11 c11] 24) = v32 at *
        obtain ⟨q_a0, f_a0, q_a1, f_a1⟩ := x_a.al
        obtain ⟨q_c0, f_c0, q_c1, f_c1⟩ := x_c.al
        obtain ⟨q_d0, f_d0, q_d1, f_d1⟩ := x_d.al
        go_wp2_with fail
        with_reducible refine (ZSign_any z10.zr (by omega)).mono ?_
        rintro e v33 ⟨rfl, hb1⟩
        replace x_a := x_a.keep hb1
        replace x_c := x_c.keep hb1
        replace x_d := x_d.keep hb1
        replace z_a := z_a.keep hb1
        replace z10 := z10.keep hb1
        replace z11 := z11.keep hb1
        replace hb := bthen hb hb1
        clear hb1
        clear q_a0 f_a0 q_a1 f_a1; obtain ⟨q_a0, f_a0, q_a1, f_a1⟩ := x_a.al
        clear q_c0 f_c0 q_c1 f_c1; obtain ⟨q_c0, f_c0, q_c1, f_c1⟩ := x_c.al
        clear q_d0 f_d0 q_d1 f_d1; obtain ⟨q_d0, f_d0, q_d1, f_d1⟩ := x_d.al
        rw [show sgnI 0 = 0 from rfl]
        go_wp2_with fail
        with_reducible refine (ZSign_any z11.zr (by omega)).mono ?_
        rintro e v34 ⟨rfl, hb1⟩
        replace x_a := x_a.keep hb1
        replace x_c := x_c.keep hb1
        replace x_d := x_d.keep hb1
        replace z_a := z_a.keep hb1
        replace z10 := z10.keep hb1
        replace z11 := z11.keep hb1
        replace hb := bthen hb hb1
        clear hb1
        clear q_a0 f_a0 q_a1 f_a1; obtain ⟨q_a0, f_a0, q_a1, f_a1⟩ := x_a.al
        clear q_c0 f_c0 q_c1 f_c1; obtain ⟨q_c0, f_c0, q_c1, f_c1⟩ := x_c.al
        clear q_d0 f_d0 q_d1 f_d1; obtain ⟨q_d0, f_d0, q_d1, f_d1⟩ := x_d.al
        rw [show sgnI 0 = 0 from rfl]
        go_wp2_with fail
        go_roundw
        case rel => exact ⟨1, by omega, by go_num, hb, x_a, z_a⟩
        case measure => simp [intOf]
      · have hkv : K9 = false := by rw [hsp]; simp; omega
        have HKV := Lib.hid hkv
        clear hkv hsp i1 i2
        obtain ⟨q_a0, f_a0, q_a1, f_a1⟩ := x_a.al
        go_wp2_with fail
        with_reducible refine (Lsum_at z_a 0 0 rfl (by omega) q N (by omega)).mono ?_
        rintro e v31 ⟨P, R, x, ⟨A10, n10, c10, A11, n11, c11, rfl, z10, z11, hb1⟩, hc⟩
        replace x_a := x_a.keep hb1
        replace z_a := z_a.keep hb1
        replace hb := bthen hb hb1
        clear hb1
        clear q_a0 f_a0 q_a1 f_a1; obtain ⟨q_a0, f_a0, q_a1, f_a1⟩ := x_a.al
        have hdk : okB T q N (dK 0) = K9 := HK.out
        rw [hdk, HKV.out] at hc
        rcases hc with ⟨hyes, hP, hR, rfl⟩ | ⟨hno, rfl, rfl, rfl⟩
        · cases hyes
        clear hno
        have y_a := ((x_a.alloc (.cells #[.bool (ngB 0), .slice A10 n10 c10] 24)).alloc (.cells #[.bool (ngB 0), .slice A11 n11 c11] 24)); have yq_a0 := y_a.c0; have yq_a1 := y_a.c1
        go_upto_region 19 with fail
        clear y_a yq_a0 yq_a1
        have l_a_c := x_a.lt
        have e_c : w.heap.size ≤ v31.heap.size := hb.size
        have hb1 := below_alloc2 v31 (.cells #[.bool (ngB 0), .slice A10 n10 c10] 24) (.cells #[.bool (ngB 0), .slice A11 n11 c11] 24)
        have x_c := (Bx.new v31 (ngB 0) A10 n10 c10).alloc (.cells #[.bool (ngB 0), .slice A11 n11 c11] 24)
        have x_d : Bx ((v31.alloc (.cells #[.bool (ngB 0), .slice A10 n10 c10] 24)).alloc (.cells #[.bool (ngB 0), .slice A11 n11 c11] 24)) (v31.heap.size + 1) (ngB 0) A11 n11 c11 := by have := Bx.new (v31.alloc (.cells #[.bool (ngB 0), .slice A10 n10 c10] 24)) (ngB 0) A11 n11 c11; simpa using this
        clear q_a0 f_a0 q_a1 f_a1
        replace x_a := x_a.keep hb1
        replace z_a := z_a.keep hb1
        replace z10 := z10.keep hb1
        replace z11 := z11.keep hb1
        replace hb := bthen hb hb1
        clear hb1
        generalize (v31.alloc (.cells #[.bool (ngB 0), .slice A10 n10 c10] 24)).alloc (.cells #[.bool (ngB 0), .slice A11 n11 c11] 24) = v32 at *
        obtain ⟨q_a0, f_a0, q_a1, f_a1⟩ := x_a.al
        obtain ⟨q_c0, f_c0, q_c1, f_c1⟩ := x_c.al
        obtain ⟨q_d0, f_d0, q_d1, f_d1⟩ := x_d.al
        go_wp2_with fail
        with_reducible refine (ZSign_any z10.zr (by omega)).mono ?_
        rintro e v33 ⟨rfl, hb1⟩
        replace x_a := x_a.keep hb1
        replace x_c := x_c.keep hb1
        replace x_d := x_d.keep hb1
        replace z_a := z_a.keep hb1
        replace z10 := z10.keep hb1
        replace z11 := z11.keep hb1
        replace hb := bthen hb hb1
        clear hb1
        clear q_a0 f_a0 q_a1 f_a1; obtain ⟨q_a0, f_a0, q_a1, f_a1⟩ := x_a.al
        clear q_c0 f_c0 q_c1 f_c1; obtain ⟨q_c0, f_c0, q_c1, f_c1⟩ := x_c.al
        clear q_d0 f_d0 q_d1 f_d1; obtain ⟨q_d0, f_d0, q_d1, f_d1⟩ := x_d.al
        rw [show sgnI 0 = 0 from rfl]
        go_wp2_with fail
        with_reducible refine (ZSign_any z11.zr (by omega)).mono ?_
        rintro e v34 ⟨rfl, hb1⟩
        replace x_a := x_a.keep hb1
        replace x_c := x_c.keep hb1
        replace x_d := x_d.keep hb1
        replace z_a := z_a.keep hb1
        replace z10 := z10.keep hb1
        replace z11 := z11.keep hb1
        replace hb := bthen hb hb1
        clear hb1
        clear q_a0 f_a0 q_a1 f_a1; obtain ⟨q_a0, f_a0, q_a1, f_a1⟩ := x_a.al
        clear q_c0 f_c0 q_c1 f_c1; obtain ⟨q_c0, f_c0, q_c1, f_c1⟩ := x_c.al
        clear q_d0 f_d0 q_d1 f_d1; obtain ⟨q_d0, f_d0, q_d1, f_d1⟩ := x_d.al
        rw [show sgnI 0 = 0 from rfl]
        go_wp2_with fail
        go_roundw
        case rel => exact ⟨1, by omega, by go_num, hb, x_a, z_a⟩
        case measure => simp [intOf]
      · have hkv : K9 = false := by rw [hsp]; simp; omega
        have HKV := Lib.hid hkv
        clear hkv hsp i1 i2
        obtain ⟨q_a0, f_a0, q_a1, f_a1⟩ := x_a.al
        go_wp2_with fail
        with_reducible refine (Lsum_at z_a 0 0 rfl (by omega) q N (by omega)).mono ?_
        rintro e v31 ⟨P, R, x, ⟨A10, n10, c10, A11, n11, c11, rfl, z10, z11, hb1⟩, hc⟩
        replace x_a := x_a.keep hb1
        replace z_a := z_a.keep hb1
        replace hb := bthen hb hb1
        clear hb1
        clear q_a0 f_a0 q_a1 f_a1; obtain ⟨q_a0, f_a0, q_a1, f_a1⟩ := x_a.al
        have hdk : okB T q N (dK 0) = K9 := HK.out
        rw [hdk, HKV.out] at hc
        rcases hc with ⟨hyes, hP, hR, rfl⟩ | ⟨hno, rfl, rfl, rfl⟩
        · cases hyes
        clear hno
        have y_a := ((x_a.alloc (.cells #[.bool (ngB 0), .slice A10 n10 c10] 24)).alloc (.cells #[.bool (ngB 0), .slice A11 n11 c11] 24)); have yq_a0 := y_a.c0; have yq_a1 := y_a.c1
        go_upto_region 19 with fail
        clear y_a yq_a0 yq_a1
        have l_a_c := x_a.lt
        have e_c : w.heap.size ≤ v31.heap.size := hb.size
        have hb1 := below_alloc2 v31 (.cells #[.bool (ngB 0), .slice A10 n10 c10] 24) (.cells #[.bool (ngB 0), .slice A11 n11 c11] 24)
        have x_c := (Bx.new v31 (ngB 0) A10 n10 c10).alloc (.cells #[.bool (ngB 0), .slice A11 n11 c11] 24)
        have x_d : Bx ((v31.alloc (.cells #[.bool (ngB 0), .slice A10 n10 c10] 24)).alloc (.cells #[.bool (ngB 0), .slice A11 n11 c11] 24)) (v31.heap.size + 1) (ngB 0) A11 n11 c11 := by have := Bx.new (v31.alloc (.cells #[.bool (ngB 0), .slice A10 n10 c10] 24)) (ngB 0) A11 n11 c11; simpa using this
        clear q_a0 f_a0 q_a1 f_a1
        replace x_a := x_a.keep hb1
        replace z_a := z_a.keep hb1
        replace z10 := z10.keep hb1
        replace z11 := z11.keep hb1
        replace hb := bthen hb hb1
        clear hb1
        generalize (v31.alloc (.cells #[.bool (ngB 0), .slice A10 n10 c10] 24)).alloc (.cells #[.bool (ngB 0), .slice A11 n11 c11] 24) = v32 at *
        obtain ⟨q_a0, f_a0, q_a1, f_a1⟩ := x_a.al
        obtain ⟨q_c0, f_c0, q_c1, f_c1⟩ := x_c.al
        obtain ⟨q_d0, f_d0, q_d1, f_d1⟩ := x_d.al
        go_wp2_with fail
        with_reducible refine (ZSign_any z10.zr (by omega)).mono ?_
        rintro e v33 ⟨rfl, hb1⟩
        replace x_a := x_a.keep hb1
        replace x_c := x_c.keep hb1
        replace x_d := x_d.keep hb1
        replace z_a := z_a.keep hb1
        replace z10 := z10.keep hb1
        replace z11 := z11.keep hb1
        replace hb := bthen hb hb1
        clear hb1
        clear q_a0 f_a0 q_a1 f_a1; obtain ⟨q_a0, f_a0, q_a1, f_a1⟩ := x_a.al
        clear q_c0 f_c0 q_c1 f_c1; obtain ⟨q_c0, f_c0, q_c1, f_c1⟩ := x_c.al
        clear q_d0 f_d0 q_d1 f_d1; obtain ⟨q_d0, f_d0, q_d1, f_d1⟩ := x_d.al
        rw [show sgnI 0 = 0 from rfl]
        go_wp2_with fail
        with_reducible refine (ZSign_any z11.zr (by omega)).mono ?_
        rintro e v34 ⟨rfl, hb1⟩
        replace x_a := x_a.keep hb1
        replace x_c := x_c.keep hb1
        replace x_d := x_d.keep hb1
        replace z_a := z_a.keep hb1
        replace z10 := z10.keep hb1
        replace z11 := z11.keep hb1
        replace hb := bthen hb hb1
        clear hb1
        clear q_a0 f_a0 q_a1 f_a1; obtain ⟨q_a0, f_a0, q_a1, f_a1⟩ := x_a.al
        clear q_c0 f_c0 q_c1 f_c1; obtain ⟨q_c0, f_c0, q_c1, f_c1⟩ := x_c.al
        clear q_d0 f_d0 q_d1 f_d1; obtain ⟨q_d0, f_d0, q_d1, f_d1⟩ := x_d.al
        rw [show sgnI 0 = 0 from rfl]
        go_wp2_with fail
        go_roundw
        case rel => exact ⟨1, by omega, by go_num, hb, x_a, z_a⟩
        case measure => simp [intOf]
      · have hkv : K9 = false := by rw [hsp]; simp; omega
        have HKV := Lib.hid hkv
        clear hkv hsp i1 i2
        obtain ⟨q_a0, f_a0, q_a1, f_a1⟩ := x_a.al
        go_wp2_with fail
        with_reducible refine (Lsum_at z_a 0 0 rfl (by omega) q N (by omega)).mono ?_
        rintro e v31 ⟨P, R, x, ⟨A10, n10, c10, A11, n11, c11, rfl, z10, z11, hb1⟩, hc⟩
        replace x_a := x_a.keep hb1
        replace z_a := z_a.keep hb1
        replace hb := bthen hb hb1
        clear hb1
        clear q_a0 f_a0 q_a1 f_a1; obtain ⟨q_a0, f_a0, q_a1, f_a1⟩ := x_a.al
        have hdk : okB T q N (dK 0) = K9 := HK.out
        rw [hdk, HKV.out] at hc
        rcases hc with ⟨hyes, hP, hR, rfl⟩ | ⟨hno, rfl, rfl, rfl⟩
        · cases hyes
        clear hno
        have y_a := ((x_a.alloc (.cells #[.bool (ngB 0), .slice A10 n10 c10] 24)).alloc (.cells #[.bool (ngB 0), .slice A11 n11 c11] 24)); have yq_a0 := y_a.c0; have yq_a1 := y_a.c1
        go_upto_region 19 with fail
        clear y_a yq_a0 yq_a1
        have l_a_c := x_a.lt
        have e_c : w.heap.size ≤ v31.heap.size := hb.size
        have hb1 := below_alloc2 v31 (.cells #[.bool (ngB 0), .slice A10 n10 c10] 24) (.cells #[.bool (ngB 0), .slice A11 n11 c11] 24)
        have x_c := (Bx.new v31 (ngB 0) A10 n10 c10).alloc (.cells #[.bool (ngB 0), .slice A11 n11 c11] 24)
        have x_d : Bx ((v31.alloc (.cells #[.bool (ngB 0), .slice A10 n10 c10] 24)).alloc (.cells #[.bool (ngB 0), .slice A11 n11 c11] 24)) (v31.heap.size + 1) (ngB 0) A11 n11 c11 := by have := Bx.new (v31.alloc (.cells #[.bool (ngB 0), .slice A10 n10 c10] 24)) (ngB 0) A11 n11 c11; simpa using this
        clear q_a0 f_a0 q_a1 f_a1
        replace x_a := x_a.keep hb1
        replace z_a := z_a.keep hb1
        replace z10 := z10.keep hb1
        replace z11 := z11.keep hb1
        replace hb := bthen hb hb1
        clear hb1
        generalize (v31.alloc (.cells #[.bool (ngB 0), .slice A10 n10 c10] 24)).alloc (.cells #[.bool (ngB 0), .slice A11 n11 c11] 24) = v32 at *
        obtain ⟨q_a0, f_a0, q_a1, f_a1⟩ := x_a.al
        obtain ⟨q_c0, f_c0, q_c1, f_c1⟩ := x_c.al
        obtain ⟨q_d0, f_d0, q_d1, f_d1⟩ := x_d.al
        go_wp2_with fail
        with_reducible refine (ZSign_any z10.zr (by omega)).mono ?_
        rintro e v33 ⟨rfl, hb1⟩
        replace x_a := x_a.keep hb1
        replace x_c := x_c.keep hb1
        replace x_d := x_d.keep hb1
        replace z_a := z_a.keep hb1
        replace z10 := z10.keep hb1
        replace z11 := z11.keep hb1
        replace hb := bthen hb hb1
        clear hb1
        clear q_a0 f_a0 q_a1 f_a1; obtain ⟨q_a0, f_a0, q_a1, f_a1⟩ := x_a.al
        clear q_c0 f_c0 q_c1 f_c1; obtain ⟨q_c0, f_c0, q_c1, f_c1⟩ := x_c.al
        clear q_d0 f_d0 q_d1 f_d1; obtain ⟨q_d0, f_d0, q_d1, f_d1⟩ := x_d.al
        rw [show sgnI 0 = 0 from rfl]
        go_wp2_with fail
        with_reducible refine (ZSign_any z11.zr (by omega)).mono ?_
        rintro e v34 ⟨rfl, hb1⟩
        replace x_a := x_a.keep hb1
        replace x_c := x_c.keep hb1
        replace x_d := x_d.keep hb1
        replace z_a := z_a.keep hb1
        replace z10 := z10.keep hb1
        replace z11 := z11.keep hb1
        replace hb := bthen hb hb1
        clear hb1
        clear q_a0 f_a0 q_a1 f_a1; obtain ⟨q_a0, f_a0, q_a1, f_a1⟩ := x_a.al
        clear q_c0 f_c0 q_c1 f_c1; obtain ⟨q_c0, f_c0, q_c1, f_c1⟩ := x_c.al
        clear q_d0 f_d0 q_d1 f_d1; obtain ⟨q_d0, f_d0, q_d1, f_d1⟩ := x_d.al
        rw [show sgnI 0 = 0 from rfl]
        go_wp2_with fail
        go_roundw
        case rel => exact ⟨1, by omega, by go_num, hb, x_a, z_a⟩
        case measure => simp [intOf]
      · have hkv : K9 = false := by rw [hsp]; simp; omega
        have HKV := Lib.hid hkv
        clear hkv hsp i1 i2
        obtain ⟨q_a0, f_a0, q_a1, f_a1⟩ := x_a.al
        go_wp2_with fail
        with_reducible refine (ZSign_any z_a (by omega)).mono ?_
        rintro e v31 ⟨rfl, hb1⟩
        replace x_a := x_a.keep hb1
        replace z_a := z_a.keep hb1
        replace hb := bthen hb hb1
        clear hb1
        clear q_a0 f_a0 q_a1 f_a1; obtain ⟨q_a0, f_a0, q_a1, f_a1⟩ := x_a.al
        rw [HS1.out]
        go_wp2_with fail
        with_reducible refine (Lsum_at z_a 0 0 rfl (by omega) q N (by omega)).mono ?_
        rintro e v32 ⟨P, R, x, ⟨A10, n10, c10, A11, n11, c11, rfl, z10, z11, hb1⟩, hc⟩
        replace x_a := x_a.keep hb1
        replace z_a := z_a.keep hb1
        replace hb := bthen hb hb1
        clear hb1
        clear q_a0 f_a0 q_a1 f_a1; obtain ⟨q_a0, f_a0, q_a1, f_a1⟩ := x_a.al
        have hdk : okB T q N (dK 0) = K9 := HK.out
        rw [hdk, HKV.out] at hc
        rcases hc with ⟨hyes, hP, hR, rfl⟩ | ⟨hno, rfl, rfl, rfl⟩
        · cases hyes
        clear hno
        have y_a := ((x_a.alloc (.cells #[.bool (ngB 0), .slice A10 n10 c10] 24)).alloc (.cells #[.bool (ngB 0), .slice A11 n11 c11] 24)); have yq_a0 := y_a.c0; have yq_a1 := y_a.c1
        go_upto_region 19 with fail
        clear y_a yq_a0 yq_a1
        have l_a_c := x_a.lt
        have e_c : w.heap.size ≤ v32.heap.size := hb.size
        have hb1 := below_alloc2 v32 (.cells #[.bool (ngB 0), .slice A10 n10 c10] 24) (.cells #[.bool (ngB 0), .slice A11 n11 c11] 24)
        have x_c := (Bx.new v32 (ngB 0) A10 n10 c10).alloc (.cells #[.bool (ngB 0), .slice A11 n11 c11] 24)
        have x_d : Bx ((v32.alloc (.cells #[.bool (ngB 0), .slice A10 n10 c10] 24)).alloc (.cells #[.bool (ngB 0), .slice A11 n11 c11] 24)) (v32.heap.size + 1) (ngB 0) A11 n11 c11 := by have := Bx.new (v32.alloc (.cells #[.bool (ngB 0), .slice A10 n10 c10] 24)) (ngB 0) A11 n11 c11; simpa using this
        clear q_a0 f_a0 q_a1 f_a1
        replace x_a := x_a.keep hb1
        replace z_a := z_a.keep hb1
        replace z10 := z10.keep hb1
        replace z11 := z11.keep hb1
        replace hb := bthen hb hb1
        clear hb1
        generalize (v32.alloc (.cells #[.bool (ngB 0), .slice A10 n10 c10] 24)).alloc (.cells #[.bool (ngB 0), .slice A11 n11 c11] 24) = v33 at *
        obtain ⟨q_a0, f_a0, q_a1, f_a1⟩ := x_a.al
        obtain ⟨q_c0, f_c0, q_c1, f_c1⟩ := x_c.al
        obtain ⟨q_d0, f_d0, q_d1, f_d1⟩ := x_d.al
        go_wp2_with fail
        with_reducible refine (ZSign_any z10.zr (by omega)).mono ?_
        rintro e v34 ⟨rfl, hb1⟩
        replace x_a := x_a.keep hb1
        replace x_c := x_c.keep hb1
        replace x_d := x_d.keep hb1
        replace z_a := z_a.keep hb1
        replace z10 := z10.keep hb1
        replace z11 := z11.keep hb1
        replace hb := bthen hb hb1
        clear hb1
        clear q_a0 f_a0 q_a1 f_a1; obtain ⟨q_a0, f_a0, q_a1, f_a1⟩ := x_a.al
        clear q_c0 f_c0 q_c1 f_c1; obtain ⟨q_c0, f_c0, q_c1, f_c1⟩ := x_c.al
        clear q_d0 f_d0 q_d1 f_d1; obtain ⟨q_d0, f_d0, q_d1, f_d1⟩ := x_d.al
        rw [show sgnI 0 = 0 from rfl]
        go_wp2_with fail
        with_reducible refine (ZSign_any z11.zr (by omega)).mono ?_
        rintro e v35 ⟨rfl, hb1⟩
        replace x_a := x_a.keep hb1
        replace x_c := x_c.keep hb1
        replace x_d := x_d.keep hb1
        replace z_a := z_a.keep hb1
        replace z10 := z10.keep hb1
        replace z11 := z11.keep hb1
        replace hb := bthen hb hb1
        clear hb1
        clear q_a0 f_a0 q_a1 f_a1; obtain ⟨q_a0, f_a0, q_a1, f_a1⟩ := x_a.al
        clear q_c0 f_c0 q_c1 f_c1; obtain ⟨q_c0, f_c0, q_c1, f_c1⟩ := x_c.al
        clear q_d0 f_d0 q_d1 f_d1; obtain ⟨q_d0, f_d0, q_d1, f_d1⟩ := x_d.al
        rw [show sgnI 0 = 0 from rfl]
        go_wp2_with fail
        go_roundw
        case rel => exact ⟨1, by omega, by go_num, hb, x_a, z_a⟩
        case measure => simp [intOf]
      · have hkv : K9 = false := by rw [hsp]; simp; omega
        have HKV := Lib.hid hkv
        clear hkv hsp i1 i2
        obtain ⟨q_a0, f_a0, q_a1, f_a1⟩ := x_a.al
        go_wp2_with fail
        with_reducible refine (ZSign_any z_a (by omega)).mono ?_
        rintro e v31 ⟨rfl, hb1⟩
        replace x_a := x_a.keep hb1
        replace z_a := z_a.keep hb1
        replace hb := bthen hb hb1
        clear hb1
        clear q_a0 f_a0 q_a1 f_a1; obtain ⟨q_a0, f_a0, q_a1, f_a1⟩ := x_a.al
        rw [HS1.out]
        go_wp2_with fail
        with_reducible refine (ZShl_any z_a 1 150 (by omega) (by omega)).mono ?_
        rintro e v32 ⟨A20, n20, c20, rfl, z20, hb1⟩
        replace x_a := x_a.keep hb1
        replace z_a := z_a.keep hb1
        replace hb := bthen hb hb1
        clear hb1
        clear q_a0 f_a0 q_a1 f_a1; obtain ⟨q_a0, f_a0, q_a1, f_a1⟩ := x_a.al
        go_wp2_with fail
        with_reducible refine (ZOf_any 2 (by omega) (by omega)).mono ?_
        rintro e v33 ⟨A21, n21, c21, rfl, z21, hb1⟩
        replace x_a := x_a.keep hb1
        replace z_a := z_a.keep hb1
        replace z20 := z20.keep hb1
        replace hb := bthen hb hb1
        clear hb1
        clear q_a0 f_a0 q_a1 f_a1; obtain ⟨q_a0, f_a0, q_a1, f_a1⟩ := x_a.al
        go_wp2_with fail
        with_reducible refine (ZShl_any z21.zr q 130 (by omega) (by omega)).mono ?_
        rintro e v34 ⟨A22, n22, c22, rfl, z22, hb1⟩
        replace x_a := x_a.keep hb1
        replace z_a := z_a.keep hb1
        replace z20 := z20.keep hb1
        replace z21 := z21.keep hb1
        replace hb := bthen hb hb1
        clear hb1
        clear q_a0 f_a0 q_a1 f_a1; obtain ⟨q_a0, f_a0, q_a1, f_a1⟩ := x_a.al
        rw [HD2.out] at z22 ⊢
        go_wp2_with fail
        with_reducible refine (ZCmp_any z20.zr z22.zr (by omega) (by omega)).mono ?_
        rintro e v35 ⟨rfl, hb1⟩
        replace x_a := x_a.keep hb1
        replace z_a := z_a.keep hb1
        replace z20 := z20.keep hb1
        replace z21 := z21.keep hb1
        replace z22 := z22.keep hb1
        replace hb := bthen hb hb1
        clear hb1
        clear q_a0 f_a0 q_a1 f_a1; obtain ⟨q_a0, f_a0, q_a1, f_a1⟩ := x_a.al
        rw [HS2.out]
        clear z20 z21 z22
        go_wp2_with fail
        with_reducible refine (Lsum_at z_a 0 0 rfl (by omega) q N (by omega)).mono ?_
        rintro e v36 ⟨P, R, x, ⟨A10, n10, c10, A11, n11, c11, rfl, z10, z11, hb1⟩, hc⟩
        replace x_a := x_a.keep hb1
        replace z_a := z_a.keep hb1
        replace hb := bthen hb hb1
        clear hb1
        clear q_a0 f_a0 q_a1 f_a1; obtain ⟨q_a0, f_a0, q_a1, f_a1⟩ := x_a.al
        have hdk : okB T q N (dK 0) = K9 := HK.out
        rw [hdk, HKV.out] at hc
        rcases hc with ⟨hyes, hP, hR, rfl⟩ | ⟨hno, rfl, rfl, rfl⟩
        · cases hyes
        clear hno
        have y_a := ((x_a.alloc (.cells #[.bool (ngB 0), .slice A10 n10 c10] 24)).alloc (.cells #[.bool (ngB 0), .slice A11 n11 c11] 24)); have yq_a0 := y_a.c0; have yq_a1 := y_a.c1
        go_upto_region 19 with fail
        clear y_a yq_a0 yq_a1
        have l_a_c := x_a.lt
        have e_c : w.heap.size ≤ v36.heap.size := hb.size
        have hb1 := below_alloc2 v36 (.cells #[.bool (ngB 0), .slice A10 n10 c10] 24) (.cells #[.bool (ngB 0), .slice A11 n11 c11] 24)
        have x_c := (Bx.new v36 (ngB 0) A10 n10 c10).alloc (.cells #[.bool (ngB 0), .slice A11 n11 c11] 24)
        have x_d : Bx ((v36.alloc (.cells #[.bool (ngB 0), .slice A10 n10 c10] 24)).alloc (.cells #[.bool (ngB 0), .slice A11 n11 c11] 24)) (v36.heap.size + 1) (ngB 0) A11 n11 c11 := by have := Bx.new (v36.alloc (.cells #[.bool (ngB 0), .slice A10 n10 c10] 24)) (ngB 0) A11 n11 c11; simpa using this
        clear q_a0 f_a0 q_a1 f_a1
        replace x_a := x_a.keep hb1
        replace z_a := z_a.keep hb1
        replace z10 := z10.keep hb1
        replace z11 := z11.keep hb1
        replace hb := bthen hb hb1
        clear hb1
        generalize (v36.alloc (.cells #[.bool (ngB 0), .slice A10 n10 c10] 24)).alloc (.cells #[.bool (ngB 0), .slice A11 n11 c11] 24) = v37 at *
        obtain ⟨q_a0, f_a0, q_a1, f_a1⟩ := x_a.al
        obtain ⟨q_c0, f_c0, q_c1, f_c1⟩ := x_c.al
        obtain ⟨q_d0, f_d0, q_d1, f_d1⟩ := x_d.al
        go_wp2_with fail
        with_reducible refine (ZSign_any z10.zr (by omega)).mono ?_
        rintro e v38 ⟨rfl, hb1⟩
        replace x_a := x_a.keep hb1
        replace x_c := x_c.keep hb1
        replace x_d := x_d.keep hb1
        replace z_a := z_a.keep hb1
        replace z10 := z10.keep hb1
        replace z11 := z11.keep hb1
        replace hb := bthen hb hb1
        clear hb1
        clear q_a0 f_a0 q_a1 f_a1; obtain ⟨q_a0, f_a0, q_a1, f_a1⟩ := x_a.al
        clear q_c0 f_c0 q_c1 f_c1; obtain ⟨q_c0, f_c0, q_c1, f_c1⟩ := x_c.al
        clear q_d0 f_d0 q_d1 f_d1; obtain ⟨q_d0, f_d0, q_d1, f_d1⟩ := x_d.al
        rw [show sgnI 0 = 0 from rfl]
        go_wp2_with fail
        with_reducible refine (ZSign_any z11.zr (by omega)).mono ?_
        rintro e v39 ⟨rfl, hb1⟩
        replace x_a := x_a.keep hb1
        replace x_c := x_c.keep hb1
        replace x_d := x_d.keep hb1
        replace z_a := z_a.keep hb1
        replace z10 := z10.keep hb1
        replace z11 := z11.keep hb1
        replace hb := bthen hb hb1
        clear hb1
        clear q_a0 f_a0 q_a1 f_a1; obtain ⟨q_a0, f_a0, q_a1, f_a1⟩ := x_a.al
        clear q_c0 f_c0 q_c1 f_c1; obtain ⟨q_c0, f_c0, q_c1, f_c1⟩ := x_c.al
        clear q_d0 f_d0 q_d1 f_d1; obtain ⟨q_d0, f_d0, q_d1, f_d1⟩ := x_d.al
        rw [show sgnI 0 = 0 from rfl]
        go_wp2_with fail
        go_roundw
        case rel => exact ⟨1, by omega, by go_num, hb, x_a, z_a⟩
        case measure => simp [intOf]
      · have hkv : K9 = true := by rw [hsp]; simp; omega
        have HKV := Lib.hid hkv
        clear hkv hsp i1 i2
        obtain ⟨q_a0, f_a0, q_a1, f_a1⟩ := x_a.al
        go_wp2_with fail
        with_reducible refine (ZSign_any z_a (by omega)).mono ?_
        rintro e v31 ⟨rfl, hb1⟩
        replace x_a := x_a.keep hb1
        replace z_a := z_a.keep hb1
        replace hb := bthen hb hb1
        clear hb1
        clear q_a0 f_a0 q_a1 f_a1; obtain ⟨q_a0, f_a0, q_a1, f_a1⟩ := x_a.al
        rw [HS1.out]
        go_wp2_with fail
        with_reducible refine (ZShl_any z_a 1 150 (by omega) (by omega)).mono ?_
        rintro e v32 ⟨A20, n20, c20, rfl, z20, hb1⟩
        replace x_a := x_a.keep hb1
        replace z_a := z_a.keep hb1
        replace hb := bthen hb hb1
        clear hb1
        clear q_a0 f_a0 q_a1 f_a1; obtain ⟨q_a0, f_a0, q_a1, f_a1⟩ := x_a.al
        go_wp2_with fail
        with_reducible refine (ZOf_any 2 (by omega) (by omega)).mono ?_
        rintro e v33 ⟨A21, n21, c21, rfl, z21, hb1⟩
        replace x_a := x_a.keep hb1
        replace z_a := z_a.keep hb1
        replace z20 := z20.keep hb1
        replace hb := bthen hb hb1
        clear hb1
        clear q_a0 f_a0 q_a1 f_a1; obtain ⟨q_a0, f_a0, q_a1, f_a1⟩ := x_a.al
        go_wp2_with fail
        with_reducible refine (ZShl_any z21.zr q 130 (by omega) (by omega)).mono ?_
        rintro e v34 ⟨A22, n22, c22, rfl, z22, hb1⟩
        replace x_a := x_a.keep hb1
        replace z_a := z_a.keep hb1
        replace z20 := z20.keep hb1
        replace z21 := z21.keep hb1
        replace hb := bthen hb hb1
        clear hb1
        clear q_a0 f_a0 q_a1 f_a1; obtain ⟨q_a0, f_a0, q_a1, f_a1⟩ := x_a.al
        rw [HD2.out] at z22 ⊢
        go_wp2_with fail
        with_reducible refine (ZCmp_any z20.zr z22.zr (by omega) (by omega)).mono ?_
        rintro e v35 ⟨rfl, hb1⟩
        replace x_a := x_a.keep hb1
        replace z_a := z_a.keep hb1
        replace z20 := z20.keep hb1
        replace z21 := z21.keep hb1
        replace z22 := z22.keep hb1
        replace hb := bthen hb hb1
        clear hb1
        clear q_a0 f_a0 q_a1 f_a1; obtain ⟨q_a0, f_a0, q_a1, f_a1⟩ := x_a.al
        rw [HS2.out]
        clear z20 z21 z22
        go_wp2_with fail
        with_reducible refine (Lsum_at z_a 0 0 rfl (by omega) q N (by omega)).mono ?_
        rintro e v36 ⟨P, R, x, ⟨A10, n10, c10, A11, n11, c11, rfl, z10, z11, hb1⟩, hc⟩
        replace x_a := x_a.keep hb1
        replace z_a := z_a.keep hb1
        replace hb := bthen hb hb1
        clear hb1
        clear q_a0 f_a0 q_a1 f_a1; obtain ⟨q_a0, f_a0, q_a1, f_a1⟩ := x_a.al
        have hdk : okB T q N (dK 0) = K9 := HK.out
        rw [hdk, HKV.out] at hc
        rcases hc with ⟨hyes, hP, hR, rfl⟩ | ⟨hno, rfl, rfl, rfl⟩
        rotate_left
        · cases hno
        clear hP hR hyes
        have y_a := ((x_a.alloc (.cells #[.bool (ngB P), .slice A10 n10 c10] 24)).alloc (.cells #[.bool (ngB R), .slice A11 n11 c11] 24)); have yq_a0 := y_a.c0; have yq_a1 := y_a.c1
        go_upto_region 19 with fail
        clear y_a yq_a0 yq_a1
        have l_a_c := x_a.lt
        have e_c : w.heap.size ≤ v36.heap.size := hb.size
        have hb1 := below_alloc2 v36 (.cells #[.bool (ngB P), .slice A10 n10 c10] 24) (.cells #[.bool (ngB R), .slice A11 n11 c11] 24)
        have x_c := (Bx.new v36 (ngB P) A10 n10 c10).alloc (.cells #[.bool (ngB R), .slice A11 n11 c11] 24)
        have x_d : Bx ((v36.alloc (.cells #[.bool (ngB P), .slice A10 n10 c10] 24)).alloc (.cells #[.bool (ngB R), .slice A11 n11 c11] 24)) (v36.heap.size + 1) (ngB R) A11 n11 c11 := by have := Bx.new (v36.alloc (.cells #[.bool (ngB P), .slice A10 n10 c10] 24)) (ngB R) A11 n11 c11; simpa using this
        clear q_a0 f_a0 q_a1 f_a1
        replace x_a := x_a.keep hb1
        replace z_a := z_a.keep hb1
        replace z10 := z10.keep hb1
        replace z11 := z11.keep hb1
        replace hb := bthen hb hb1
        clear hb1
        generalize (v36.alloc (.cells #[.bool (ngB P), .slice A10 n10 c10] 24)).alloc (.cells #[.bool (ngB R), .slice A11 n11 c11] 24) = v37 at *
        obtain ⟨q_a0, f_a0, q_a1, f_a1⟩ := x_a.al
        obtain ⟨q_c0, f_c0, q_c1, f_c1⟩ := x_c.al
        obtain ⟨q_d0, f_d0, q_d1, f_d1⟩ := x_d.al
        go_wp2_with fail
        go_roundw
        case rel => exact ⟨1, by omega, by go_num, hb, x_a, z_a⟩
        case measure => simp [intOf]
    · have hsp := okB_split T q N 1
      obtain ⟨K9, hK9⟩ : ∃ e, okB T q N 1 = e := ⟨_, rfl⟩
      obtain ⟨S1, hS1⟩ : ∃ e, sgnI T = e := ⟨_, rfl⟩
      obtain ⟨D2, hD2⟩ : ∃ e, (1 : Int) * 2 ^ sc q = e := ⟨_, rfl⟩
      obtain ⟨S2, hS2⟩ : ∃ e, sgnI (T * 2 ^ sc 1 - D2) = e := ⟨_, rfl⟩
      have i1 : 0 ≤ S1 ↔ 0 ≤ T := by rw [← hS1]; exact sgn_ge_iff
      have i2 : S2 ≤ 0 ↔ 2 * T ≤ D2 := by rw [← hS2, sgn_le_iff, show T * 2 ^ sc 1 = 2 * T by rw [show sc 1 = 1 from rfl]; omega]; omega
      rw [hK9, hD2] at hsp
      have HD2 := Lib.hid hD2; clear hD2
      have HK := Lib.hid hK9; have HS1 := Lib.hid hS1; have HS2 := Lib.hid hS2; clear hK9 hS1 hS2
      rcases (show ¬ 0 ≤ q ∨ (0 ≤ q ∧ ¬ q ≤ 1200) ∨ (0 ≤ q ∧ q ≤ 1200 ∧ ¬ 1 ≤ N) ∨ (0 ≤ q ∧ q ≤ 1200 ∧ 1 ≤ N ∧ ¬ N ≤ 400) ∨ (0 ≤ q ∧ q ≤ 1200 ∧ 1 ≤ N ∧ N ≤ 400 ∧ ¬ 0 ≤ S1) ∨ (0 ≤ q ∧ q ≤ 1200 ∧ 1 ≤ N ∧ N ≤ 400 ∧ 0 ≤ S1 ∧ ¬ S2 ≤ 0) ∨ (0 ≤ q ∧ q ≤ 1200 ∧ 1 ≤ N ∧ N ≤ 400 ∧ 0 ≤ S1 ∧ S2 ≤ 0) by omega) with o1 | ⟨o1, o2⟩ | ⟨o1, o2, o3⟩ | ⟨o1, o2, o3, o4⟩ | ⟨o1, o2, o3, o4, o5⟩ | ⟨o1, o2, o3, o4, o5, o6⟩ | ⟨o1, o2, o3, o4, o5, o6⟩
      · have hkv : K9 = false := by rw [hsp]; simp; omega
        have HKV := Lib.hid hkv
        clear hkv hsp i1 i2
        obtain ⟨q_a0, f_a0, q_a1, f_a1⟩ := x_a.al
        go_wp2_with fail
        with_reducible refine (Lsum_at z_a 1 1 rfl (by omega) q N (by omega)).mono ?_
        rintro e v31 ⟨P, R, x, ⟨A10, n10, c10, A11, n11, c11, rfl, z10, z11, hb1⟩, hc⟩
        replace x_a := x_a.keep hb1
        replace z_a := z_a.keep hb1
        replace hb := bthen hb hb1
        clear hb1
        clear q_a0 f_a0 q_a1 f_a1; obtain ⟨q_a0, f_a0, q_a1, f_a1⟩ := x_a.al
        have hdk : okB T q N (dK 1) = K9 := HK.out
        rw [hdk, HKV.out] at hc
        rcases hc with ⟨hyes, hP, hR, rfl⟩ | ⟨hno, rfl, rfl, rfl⟩
        · cases hyes
        clear hno
        have y_a := ((x_a.alloc (.cells #[.bool (ngB 0), .slice A10 n10 c10] 24)).alloc (.cells #[.bool (ngB 0), .slice A11 n11 c11] 24)); have yq_a0 := y_a.c0; have yq_a1 := y_a.c1
        go_upto_region 19 with fail
        clear y_a yq_a0 yq_a1
        have l_a_c := x_a.lt
        have e_c : w.heap.size ≤ v31.heap.size := hb.size
        have hb1 := below_alloc2 v31 (.cells #[.bool (ngB 0), .slice A10 n10 c10] 24) (.cells #[.bool (ngB 0), .slice A11 n11 c11] 24)
        have x_c := (Bx.new v31 (ngB 0) A10 n10 c10).alloc (.cells #[.bool (ngB 0), .slice A11 n11 c11] 24)
        have x_d : Bx ((v31.alloc (.cells #[.bool (ngB 0), .slice A10 n10 c10] 24)).alloc (.cells #[.bool (ngB 0), .slice A11 n11 c11] 24)) (v31.heap.size + 1) (ngB 0) A11 n11 c11 := by have := Bx.new (v31.alloc (.cells #[.bool (ngB 0), .slice A10 n10 c10] 24)) (ngB 0) A11 n11 c11; simpa using this
        clear q_a0 f_a0 q_a1 f_a1
        replace x_a := x_a.keep hb1
        replace z_a := z_a.keep hb1
        replace z10 := z10.keep hb1
        replace z11 := z11.keep hb1
        replace hb := bthen hb hb1
        clear hb1
        generalize (v31.alloc (.cells #[.bool (ngB 0), .slice A10 n10 c10] 24)).alloc (.cells #[.bool (ngB 0), .slice A11 n11 c11] 24) = v32 at *
        obtain ⟨q_a0, f_a0, q_a1, f_a1⟩ := x_a.al
        obtain ⟨q_c0, f_c0, q_c1, f_c1⟩ := x_c.al
        obtain ⟨q_d0, f_d0, q_d1, f_d1⟩ := x_d.al
        go_wp2_with fail
        with_reducible refine (ZSign_any z10.zr (by omega)).mono ?_
        rintro e v33 ⟨rfl, hb1⟩
        replace x_a := x_a.keep hb1
        replace x_c := x_c.keep hb1
        replace x_d := x_d.keep hb1
        replace z_a := z_a.keep hb1
        replace z10 := z10.keep hb1
        replace z11 := z11.keep hb1
        replace hb := bthen hb hb1
        clear hb1
        clear q_a0 f_a0 q_a1 f_a1; obtain ⟨q_a0, f_a0, q_a1, f_a1⟩ := x_a.al
        clear q_c0 f_c0 q_c1 f_c1; obtain ⟨q_c0, f_c0, q_c1, f_c1⟩ := x_c.al
        clear q_d0 f_d0 q_d1 f_d1; obtain ⟨q_d0, f_d0, q_d1, f_d1⟩ := x_d.al
        rw [show sgnI 0 = 0 from rfl]
        go_wp2_with fail
        with_reducible refine (ZSign_any z11.zr (by omega)).mono ?_
        rintro e v34 ⟨rfl, hb1⟩
        replace x_a := x_a.keep hb1
        replace x_c := x_c.keep hb1
        replace x_d := x_d.keep hb1
        replace z_a := z_a.keep hb1
        replace z10 := z10.keep hb1
        replace z11 := z11.keep hb1
        replace hb := bthen hb hb1
        clear hb1
        clear q_a0 f_a0 q_a1 f_a1; obtain ⟨q_a0, f_a0, q_a1, f_a1⟩ := x_a.al
        clear q_c0 f_c0 q_c1 f_c1; obtain ⟨q_c0, f_c0, q_c1, f_c1⟩ := x_c.al
        clear q_d0 f_d0 q_d1 f_d1; obtain ⟨q_d0, f_d0, q_d1, f_d1⟩ := x_d.al
        rw [show sgnI 0 = 0 from rfl]
        go_wp2_with fail
        go_roundw
        case rel => exact ⟨2, by omega, by go_num, hb, x_a, z_a⟩
        case measure => simp [intOf]
      · have hkv : K9 = false := by rw [hsp]; simp; omega
        have HKV := Lib.hid hkv
        clear hkv hsp i1 i2
        obtain ⟨q_a0, f_a0, q_a1, f_a1⟩ := x_a.al
        go_wp2_with fail
        with_reducible refine (Lsum_at z_a 1 1 rfl (by omega) q N (by omega)).mono ?_
        rintro e v31 ⟨P, R, x, ⟨A10, n10, c10, A11, n11, c11, rfl, z10, z11, hb1⟩, hc⟩
        replace x_a := x_a.keep hb1
        replace z_a := z_a.keep hb1
        replace hb := bthen hb hb1
        clear hb1
        clear q_a0 f_a0 q_a1 f_a1; obtain ⟨q_a0, f_a0, q_a1, f_a1⟩ := x_a.al
        have hdk : okB T q N (dK 1) = K9 := HK.out
        rw [hdk, HKV.out] at hc
        rcases hc with ⟨hyes, hP, hR, rfl⟩ | ⟨hno, rfl, rfl, rfl⟩
        · cases hyes
        clear hno
        have y_a := ((x_a.alloc (.cells #[.bool (ngB 0), .slice A10 n10 c10] 24)).alloc (.cells #[.bool (ngB 0), .slice A11 n11 c11] 24)); have yq_a0 := y_a.c0; have yq_a1 := y_a.c1
        go_upto_region 19 with fail
        clear y_a yq_a0 yq_a1
        have l_a_c := x_a.lt
        have e_c : w.heap.size ≤ v31.heap.size := hb.size
        have hb1 := below_alloc2 v31 (.cells #[.bool (ngB 0), .slice A10 n10 c10] 24) (.cells #[.bool (ngB 0), .slice A11 n11 c11] 24)
        have x_c := (Bx.new v31 (ngB 0) A10 n10 c10).alloc (.cells #[.bool (ngB 0), .slice A11 n11 c11] 24)
        have x_d : Bx ((v31.alloc (.cells #[.bool (ngB 0), .slice A10 n10 c10] 24)).alloc (.cells #[.bool (ngB 0), .slice A11 n11 c11] 24)) (v31.heap.size + 1) (ngB 0) A11 n11 c11 := by have := Bx.new (v31.alloc (.cells #[.bool (ngB 0), .slice A10 n10 c10] 24)) (ngB 0) A11 n11 c11; simpa using this
        clear q_a0 f_a0 q_a1 f_a1
        replace x_a := x_a.keep hb1
        replace z_a := z_a.keep hb1
        replace z10 := z10.keep hb1
        replace z11 := z11.keep hb1
        replace hb := bthen hb hb1
        clear hb1
        generalize (v31.alloc (.cells #[.bool (ngB 0), .slice A10 n10 c10] 24)).alloc (.cells #[.bool (ngB 0), .slice A11 n11 c11] 24) = v32 at *
        obtain ⟨q_a0, f_a0, q_a1, f_a1⟩ := x_a.al
        obtain ⟨q_c0, f_c0, q_c1, f_c1⟩ := x_c.al
        obtain ⟨q_d0, f_d0, q_d1, f_d1⟩ := x_d.al
        go_wp2_with fail
        with_reducible refine (ZSign_any z10.zr (by omega)).mono ?_
        rintro e v33 ⟨rfl, hb1⟩
        replace x_a := x_a.keep hb1
        replace x_c := x_c.keep hb1
        replace x_d := x_d.keep hb1
        replace z_a := z_a.keep hb1
        replace z10 := z10.keep hb1
        replace z11 := z11.keep hb1
        replace hb := bthen hb hb1
        clear hb1
        clear q_a0 f_a0 q_a1 f_a1; obtain ⟨q_a0, f_a0, q_a1, f_a1⟩ := x_a.al
        clear q_c0 f_c0 q_c1 f_c1; obtain ⟨q_c0, f_c0, q_c1, f_c1⟩ := x_c.al
        clear q_d0 f_d0 q_d1 f_d1; obtain ⟨q_d0, f_d0, q_d1, f_d1⟩ := x_d.al
        rw [show sgnI 0 = 0 from rfl]
        go_wp2_with fail
        with_reducible refine (ZSign_any z11.zr (by omega)).mono ?_
        rintro e v34 ⟨rfl, hb1⟩
        replace x_a := x_a.keep hb1
        replace x_c := x_c.keep hb1
        replace x_d := x_d.keep hb1
        replace z_a := z_a.keep hb1
        replace z10 := z10.keep hb1
        replace z11 := z11.keep hb1
        replace hb := bthen hb hb1
        clear hb1
        clear q_a0 f_a0 q_a1 f_a1; obtain ⟨q_a0, f_a0, q_a1, f_a1⟩ := x_a.al
        clear q_c0 f_c0 q_c1 f_c1; obtain ⟨q_c0, f_c0, q_c1, f_c1⟩ := x_c.al
        clear q_d0 f_d0 q_d1 f_d1; obtain ⟨q_d0, f_d0, q_d1, f_d1⟩ := x_d.al
        rw [show sgnI 0 = 0 from rfl]
        go_wp2_with fail
        go_roundw
        case rel => exact ⟨2, by omega, by go_num, hb, x_a, z_a⟩
        case measure => simp [intOf]
      · have hkv : K9 = false := by rw [hsp]; simp; omega
        have HKV := Lib.hid hkv
        clear hkv hsp i1 i2
        obtain ⟨q_a0, f_a0, q_a1, f_a1⟩ := x_a.al
        go_wp2_with fail
        with_reducible refine (Lsum_at z_a 1 1 rfl (by omega) q N (by omega)).mono ?_
        rintro e v31 ⟨P, R, x, ⟨A10, n10, c10, A11, n11, c11, rfl, z10, z11, hb1⟩, hc⟩
        replace x_a := x_a.keep hb1
        replace z_a := z_a.keep hb1
        replace hb := bthen hb hb1
        clear hb1
        clear q_a0 f_a0 q_a1 f_a1; obtain ⟨q_a0, f_a0, q_a1, f_a1⟩ := x_a.al
        have hdk : okB T q N (dK 1) = K9 := HK.out
        rw [hdk, HKV.out] at hc
        rcases hc with ⟨hyes, hP, hR, rfl⟩ | ⟨hno, rfl, rfl, rfl⟩
        · cases hyes
        clear hno
        have y_a := ((x_a.alloc (.cells #[.bool (ngB 0), .slice A10 n10 c10] 24)).alloc (.cells #[.bool (ngB 0), .slice A11 n11 c11] 24)); have yq_a0 := y_a.c0; have yq_a1 := y_a.c1
        go_upto_region 19 with fail
        clear y_a yq_a0 yq_a1
        have l_a_c := x_a.lt
        have e_c : w.heap.size ≤ v31.heap.size := hb.size
        have hb1 := below_alloc2 v31 (.cells #[.bool (ngB 0), .slice A10 n10 c10] 24) (.cells #[.bool (ngB 0), .slice A11 n11 c11] 24)
        have x_c := (Bx.new v31 (ngB 0) A10 n10 c10).alloc (.cells #[.bool (ngB 0), .slice A11 n11 c11] 24)
        have x_d : Bx ((v31.alloc (.cells #[.bool (ngB 0), .slice A10 n10 c10] 24)).alloc (.cells #[.bool (ngB 0), .slice A11 n11 c11] 24)) (v31.heap.size + 1) (ngB 0) A11 n11 c11 := by have := Bx.new (v31.alloc (.cells #[.bool (ngB 0), .slice A10 n10 c10] 24)) (ngB 0) A11 n11 c11; simpa using this
        clear q_a0 f_a0 q_a1 f_a1
        replace x_a := x_a.keep hb1
        replace z_a := z_a.keep hb1
        replace z10 := z10.keep hb1
        replace z11 := z11.keep hb1
        replace hb := bthen hb hb1
        clear hb1
        generalize (v31.alloc (.cells #[.bool (ngB 0), .slice A10 n10 c10] 24)).alloc (.cells #[.bool (ngB 0), .slice A11 n11 c11] 24) = v32 at *
        obtain ⟨q_a0, f_a0, q_a1, f_a1⟩ := x_a.al
        obtain ⟨q_c0, f_c0, q_c1, f_c1⟩ := x_c.al
        obtain ⟨q_d0, f_d0, q_d1, f_d1⟩ := x_d.al
        go_wp2_with fail
        with_reducible refine (ZSign_any z10.zr (by omega)).mono ?_
        rintro e v33 ⟨rfl, hb1⟩
        replace x_a := x_a.keep hb1
        replace x_c := x_c.keep hb1
        replace x_d := x_d.keep hb1
        replace z_a := z_a.keep hb1
        replace z10 := z10.keep hb1
        replace z11 := z11.keep hb1
        replace hb := bthen hb hb1
        clear hb1
        clear q_a0 f_a0 q_a1 f_a1; obtain ⟨q_a0, f_a0, q_a1, f_a1⟩ := x_a.al
        clear q_c0 f_c0 q_c1 f_c1; obtain ⟨q_c0, f_c0, q_c1, f_c1⟩ := x_c.al
        clear q_d0 f_d0 q_d1 f_d1; obtain ⟨q_d0, f_d0, q_d1, f_d1⟩ := x_d.al
        rw [show sgnI 0 = 0 from rfl]
        go_wp2_with fail
        with_reducible refine (ZSign_any z11.zr (by omega)).mono ?_
        rintro e v34 ⟨rfl, hb1⟩
        replace x_a := x_a.keep hb1
        replace x_c := x_c.keep hb1
        replace x_d := x_d.keep hb1
        replace z_a := z_a.keep hb1
        replace z10 := z10.keep hb1
        replace z11 := z11.keep hb1
        replace hb := bthen hb hb1
        clear hb1
        clear q_a0 f_a0 q_a1 f_a1; obtain ⟨q_a0, f_a0, q_a1, f_a1⟩ := x_a.al
        clear q_c0 f_c0 q_c1 f_c1; obtain ⟨q_c0, f_c0, q_c1, f_c1⟩ := x_c.al
        clear q_d0 f_d0 q_d1 f_d1; obtain ⟨q_d0, f_d0, q_d1, f_d1⟩ := x_d.al
        rw [show sgnI 0 = 0 from rfl]
        go_wp2_with fail
        go_roundw
        case rel => exact ⟨2, by omega, by go_num, hb, x_a, z_a⟩
        case measure => simp [intOf]
      · have hkv : K9 = false := by rw [hsp]; simp; omega
        have HKV := Lib.hid hkv
        clear hkv hsp i1 i2
        obtain ⟨q_a0, f_a0, q_a1, f_a1⟩ := x_a.al
        go_wp2_with fail
        with_reducible refine (Lsum_at z_a 1 1 rfl (by omega) q N (by omega)).mono ?_
        rintro e v31 ⟨P, R, x, ⟨A10, n10, c10, A11, n11, c11, rfl, z10, z11, hb1⟩, hc⟩
        replace x_a := x_a.keep hb1
        replace z_a := z_a.keep hb1
        replace hb := bthen hb hb1
        clear hb1
        clear q_a0 f_a0 q_a1 f_a1; obtain ⟨q_a0, f_a0, q_a1, f_a1⟩ := x_a.al
        have hdk : okB T q N (dK 1) = K9 := HK.out
        rw [hdk, HKV.out] at hc
        rcases hc with ⟨hyes, hP, hR, rfl⟩ | ⟨hno, rfl, rfl, rfl⟩
        · cases hyes
        clear hno
        have y_a := ((x_a.alloc (.cells #[.bool (ngB 0), .slice A10 n10 c10] 24)).alloc (.cells #[.bool (ngB 0), .slice A11 n11 c11] 24)); have yq_a0 := y_a.c0; have yq_a1 := y_a.c1
        go_upto_region 19 with fail
        clear y_a yq_a0 yq_a1
        have l_a_c := x_a.lt
        have e_c : w.heap.size ≤ v31.heap.size := hb.size
        have hb1 := below_alloc2 v31 (.cells #[.bool (ngB 0), .slice A10 n10 c10] 24) (.cells #[.bool (ngB 0), .slice A11 n11 c11] 24)
        have x_c := (Bx.new v31 (ngB 0) A10 n10 c10).alloc (.cells #[.bool (ngB 0), .slice A11 n11 c11] 24)
        have x_d : Bx ((v31.alloc (.cells #[.bool (ngB 0), .slice A10 n10 c10] 24)).alloc (.cells #[.bool (ngB 0), .slice A11 n11 c11] 24)) (v31.heap.size + 1) (ngB 0) A11 n11 c11 := by have := Bx.new (v31.alloc (.cells #[.bool (ngB 0), .slice A10 n10 c10] 24)) (ngB 0) A11 n11 c11; simpa using this
        clear q_a0 f_a0 q_a1 f_a1
        replace x_a := x_a.keep hb1
        replace z_a := z_a.keep hb1
        replace z10 := z10.keep hb1
        replace z11 := z11.keep hb1
        replace hb := bthen hb hb1
        clear hb1
        generalize (v31.alloc (.cells #[.bool (ngB 0), .slice A10 n10 c10] 24)).alloc (.cells #[.bool (ngB 0), .slice A11 n11 c11] 24) = v32 at *
        obtain ⟨q_a0, f_a0, q_a1, f_a1⟩ := x_a.al
        obtain ⟨q_c0, f_c0, q_c1, f_c1⟩ := x_c.al
        obtain ⟨q_d0, f_d0, q_d1, f_d1⟩ := x_d.al
        go_wp2_with fail
        with_reducible refine (ZSign_any z10.zr (by omega)).mono ?_
        rintro e v33 ⟨rfl, hb1⟩
        replace x_a := x_a.keep hb1
        replace x_c := x_c.keep hb1
        replace x_d := x_d.keep hb1
        replace z_a := z_a.keep hb1
        replace z10 := z10.keep hb1
        replace z11 := z11.keep hb1
        replace hb := bthen hb hb1
        clear hb1
        clear q_a0 f_a0 q_a1 f_a1; obtain ⟨q_a0, f_a0, q_a1, f_a1⟩ := x_a.al
        clear q_c0 f_c0 q_c1 f_c1; obtain ⟨q_c0, f_c0, q_c1, f_c1⟩ := x_c.al
        clear q_d0 f_d0 q_d1 f_d1; obtain ⟨q_d0, f_d0, q_d1, f_d1⟩ := x_d.al
        rw [show sgnI 0 = 0 from rfl]
        go_wp2_with fail
        with_reducible refine (ZSign_any z11.zr (by omega)).mono ?_
        rintro e v34 ⟨rfl, hb1⟩
        replace x_a := x_a.keep hb1
        replace x_c := x_c.keep hb1
        replace x_d := x_d.keep hb1
        replace z_a := z_a.keep hb1
        replace z10 := z10.keep hb1
        replace z11 := z11.keep hb1
        replace hb := bthen hb hb1
        clear hb1
        clear q_a0 f_a0 q_a1 f_a1; obtain ⟨q_a0, f_a0, q_a1, f_a1⟩ := x_a.al
        clear q_c0 f_c0 q_c1 f_c1; obtain ⟨q_c0, f_c0, q_c1, f_c1⟩ := x_c.al
        clear q_d0 f_d0 q_d1 f_d1; obtain ⟨q_d0, f_d0, q_d1, f_d1⟩ := x_d.al
        rw [show sgnI 0 = 0 from rfl]
        go_wp2_with fail
        go_roundw
        case rel => exact ⟨2, by omega, by go_num, hb, x_a, z_a⟩
        case measure => simp [intOf]
      · have hkv : K9 = false := by rw [hsp]; simp; omega
        have HKV := Lib.hid hkv
        clear hkv hsp i1 i2
        obtain ⟨q_a0, f_a0, q_a1, f_a1⟩ := x_a.al
        go_wp2_with fail
        with_reducible refine (ZSign_any z_a (by omega)).mono ?_
        rintro e v31 ⟨rfl, hb1⟩
        replace x_a := x_a.keep hb1
        replace z_a := z_a.keep hb1
        replace hb := bthen hb hb1
        clear hb1
        clear q_a0 f_a0 q_a1 f_a1; obtain ⟨q_a0, f_a0, q_a1, f_a1⟩ := x_a.al
        rw [HS1.out]
        go_wp2_with fail
        with_reducible refine (Lsum_at z_a 1 1 rfl (by omega) q N (by omega)).mono ?_
        rintro e v32 ⟨P, R, x, ⟨A10, n10, c10, A11, n11, c11, rfl, z10, z11, hb1⟩, hc⟩
        replace x_a := x_a.keep hb1
        replace z_a := z_a.keep hb1
        replace hb := bthen hb hb1
        clear hb1
        clear q_a0 f_a0 q_a1 f_a1; obtain ⟨q_a0, f_a0, q_a1, f_a1⟩ := x_a.al
        have hdk : okB T q N (dK 1) = K9 := HK.out
        rw [hdk, HKV.out] at hc
        rcases hc with ⟨hyes, hP, hR, rfl⟩ | ⟨hno, rfl, rfl, rfl⟩
        · cases hyes
        clear hno
        have y_a := ((x_a.alloc (.cells #[.bool (ngB 0), .slice A10 n10 c10] 24)).alloc (.cells #[.bool (ngB 0), .slice A11 n11 c11] 24)); have yq_a0 := y_a.c0; have yq_a1 := y_a.c1
        go_upto_region 19 with fail
        clear y_a yq_a0 yq_a1
        have l_a_c := x_a.lt
        have e_c : w.heap.size ≤ v32.heap.size := hb.size
        have hb1 := below_alloc2 v32 (.cells #[.bool (ngB 0), .slice A10 n10 c10] 24) (.cells #[.bool (ngB 0), .slice A11 n11 c11] 24)
        have x_c := (Bx.new v32 (ngB 0) A10 n10 c10).alloc (.cells #[.bool (ngB 0), .slice A11 n11 c11] 24)
        have x_d : Bx ((v32.alloc (.cells #[.bool (ngB 0), .slice A10 n10 c10] 24)).alloc (.cells #[.bool (ngB 0), .slice A11 n11 c11] 24)) (v32.heap.size + 1) (ngB 0) A11 n11 c11 := by have := Bx.new (v32.alloc (.cells #[.bool (ngB 0), .slice A10 n10 c10] 24)) (ngB 0) A11 n11 c11; simpa using this
        clear q_a0 f_a0 q_a1 f_a1
        replace x_a := x_a.keep hb1
        replace z_a := z_a.keep hb1
        replace z10 := z10.keep hb1
        replace z11 := z11.keep hb1
        replace hb := bthen hb hb1
        clear hb1
        generalize (v32.alloc (.cells #[.bool (ngB 0), .slice A10 n10 c10] 24)).alloc (.cells #[.bool (ngB 0), .slice A11 n11 c11] 24) = v33 at *
        obtain ⟨q_a0, f_a0, q_a1, f_a1⟩ := x_a.al
        obtain ⟨q_c0, f_c0, q_c1, f_c1⟩ := x_c.al
        obtain ⟨q_d0, f_d0, q_d1, f_d1⟩ := x_d.al
        go_wp2_with fail
        with_reducible refine (ZSign_any z10.zr (by omega)).mono ?_
        rintro e v34 ⟨rfl, hb1⟩
        replace x_a := x_a.keep hb1
        replace x_c := x_c.keep hb1
        replace x_d := x_d.keep hb1
        replace z_a := z_a.keep hb1
        replace z10 := z10.keep hb1
        replace z11 := z11.keep hb1
        replace hb := bthen hb hb1
        clear hb1
        clear q_a0 f_a0 q_a1 f_a1; obtain ⟨q_a0, f_a0, q_a1, f_a1⟩ := x_a.al
        clear q_c0 f_c0 q_c1 f_c1; obtain ⟨q_c0, f_c0, q_c1, f_c1⟩ := x_c.al
        clear q_d0 f_d0 q_d1 f_d1; obtain ⟨q_d0, f_d0, q_d1, f_d1⟩ := x_d.al
        rw [show sgnI 0 = 0 from rfl]
        go_wp2_with fail
        with_reducible refine (ZSign_any z11.zr (by omega)).mono ?_
        rintro e v35 ⟨rfl, hb1⟩
        replace x_a := x_a.keep hb1
        replace x_c := x_c.keep hb1
        replace x_d := x_d.keep hb1
        replace z_a := z_a.keep hb1
        replace z10 := z10.keep hb1
        replace z11 := z11.keep hb1
        replace hb := bthen hb hb1
        clear hb1
        clear q_a0 f_a0 q_a1 f_a1; obtain ⟨q_a0, f_a0, q_a1, f_a1⟩ := x_a.al
        clear q_c0 f_c0 q_c1 f_c1; obtain ⟨q_c0, f_c0, q_c1, f_c1⟩ := x_c.al
        clear q_d0 f_d0 q_d1 f_d1; obtain ⟨q_d0, f_d0, q_d1, f_d1⟩ := x_d.al
        rw [show sgnI 0 = 0 from rfl]
        go_wp2_with fail
        go_roundw
        case rel => exact ⟨2, by omega, by go_num, hb, x_a, z_a⟩
        case measure => simp [intOf]
      · have hkv : K9 = false := by rw [hsp]; simp; omega
        have HKV := Lib.hid hkv
        clear hkv hsp i1 i2
        obtain ⟨q_a0, f_a0, q_a1, f_a1⟩ := x_a.al
        go_wp2_with fail
        with_reducible refine (ZSign_any z_a (by omega)).mono ?_
        rintro e v31 ⟨rfl, hb1⟩
        replace x_a := x_a.keep hb1
        replace z_a := z_a.keep hb1
        replace hb := bthen hb hb1
        clear hb1
        clear q_a0 f_a0 q_a1 f_a1; obtain ⟨q_a0, f_a0, q_a1, f_a1⟩ := x_a.al
        rw [HS1.out]
        go_wp2_with fail
        with_reducible refine (ZShl_any z_a 1 150 (by omega) (by omega)).mono ?_
        rintro e v32 ⟨A20, n20, c20, rfl, z20, hb1⟩
        replace x_a := x_a.keep hb1
        replace z_a := z_a.keep hb1
        replace hb := bthen hb hb1
        clear hb1
        clear q_a0 f_a0 q_a1 f_a1; obtain ⟨q_a0, f_a0, q_a1, f_a1⟩ := x_a.al
        go_wp2_with fail
        with_reducible refine (ZOf_any 1 (by omega) (by omega)).mono ?_
        rintro e v33 ⟨A21, n21, c21, rfl, z21, hb1⟩
        replace x_a := x_a.keep hb1
        replace z_a := z_a.keep hb1
        replace z20 := z20.keep hb1
        replace hb := bthen hb hb1
        clear hb1
        clear q_a0 f_a0 q_a1 f_a1; obtain ⟨q_a0, f_a0, q_a1, f_a1⟩ := x_a.al
        go_wp2_with fail
        with_reducible refine (ZShl_any z21.zr q 130 (by omega) (by omega)).mono ?_
        rintro e v34 ⟨A22, n22, c22, rfl, z22, hb1⟩
        replace x_a := x_a.keep hb1
        replace z_a := z_a.keep hb1
        replace z20 := z20.keep hb1
        replace z21 := z21.keep hb1
        replace hb := bthen hb hb1
        clear hb1
        clear q_a0 f_a0 q_a1 f_a1; obtain ⟨q_a0, f_a0, q_a1, f_a1⟩ := x_a.al
        rw [HD2.out] at z22 ⊢
        go_wp2_with fail
        with_reducible refine (ZCmp_any z20.zr z22.zr (by omega) (by omega)).mono ?_
        rintro e v35 ⟨rfl, hb1⟩
        replace x_a := x_a.keep hb1
        replace z_a := z_a.keep hb1
        replace z20 := z20.keep hb1
        replace z21 := z21.keep hb1
        replace z22 := z22.keep hb1
        replace hb := bthen hb hb1
        clear hb1
        clear q_a0 f_a0 q_a1 f_a1; obtain ⟨q_a0, f_a0, q_a1, f_a1⟩ := x_a.al
        rw [HS2.out]
        clear z20 z21 z22
        go_wp2_with fail
        with_reducible refine (Lsum_at z_a 1 1 rfl (by omega) q N (by omega)).mono ?_
        rintro e v36 ⟨P, R, x, ⟨A10, n10, c10, A11, n11, c11, rfl, z10, z11, hb1⟩, hc⟩
        replace x_a := x_a.keep hb1
        replace z_a := z_a.keep hb1
        replace hb := bthen hb hb1
        clear hb1
        clear q_a0 f_a0 q_a1 f_a1; obtain ⟨q_a0, f_a0, q_a1, f_a1⟩ := x_a.al
        have hdk : okB T q N (dK 1) = K9 := HK.out
        rw [hdk, HKV.out] at hc
        rcases hc with ⟨hyes, hP, hR, rfl⟩ | ⟨hno, rfl, rfl, rfl⟩
        · cases hyes
        clear hno
        have y_a := ((x_a.alloc (.cells #[.bool (ngB 0), .slice A10 n10 c10] 24)).alloc (.cells #[.bool (ngB 0), .slice A11 n11 c11] 24)); have yq_a0 := y_a.c0; have yq_a1 := y_a.c1
        go_upto_region 19 with fail
        clear y_a yq_a0 yq_a1
        have l_a_c := x_a.lt
        have e_c : w.heap.size ≤ v36.heap.size := hb.size
        have hb1 := below_alloc2 v36 (.cells #[.bool (ngB 0), .slice A10 n10 c10] 24) (.cells #[.bool (ngB 0), .slice A11 n11 c11] 24)
        have x_c := (Bx.new v36 (ngB 0) A10 n10 c10).alloc (.cells #[.bool (ngB 0), .slice A11 n11 c11] 24)
        have x_d : Bx ((v36.alloc (.cells #[.bool (ngB 0), .slice A10 n10 c10] 24)).alloc (.cells #[.bool (ngB 0), .slice A11 n11 c11] 24)) (v36.heap.size + 1) (ngB 0) A11 n11 c11 := by have := Bx.new (v36.alloc (.cells #[.bool (ngB 0), .slice A10 n10 c10] 24)) (ngB 0) A11 n11 c11; simpa using this
        clear q_a0 f_a0 q_a1 f_a1
        replace x_a := x_a.keep hb1
        replace z_a := z_a.keep hb1
        replace z10 := z10.keep hb1
        replace z11 := z11.keep hb1
        replace hb := bthen hb hb1
        clear hb1
        generalize (v36.alloc (.cells #[.bool (ngB 0), .slice A10 n10 c10] 24)).alloc (.cells #[.bool (ngB 0), .slice A11 n11 c11] 24) = v37 at *
        obtain ⟨q_a0, f_a0, q_a1, f_a1⟩ := x_a.al
        obtain ⟨q_c0, f_c0, q_c1, f_c1⟩ := x_c.al
        obtain ⟨q_d0, f_d0, q_d1, f_d1⟩ := x_d.al
        go_wp2_with fail
        with_reducible refine (ZSign_any z10.zr (by omega)).mono ?_
        rintro e v38 ⟨rfl, hb1⟩
        replace x_a := x_a.keep hb1
        replace x_c := x_c.keep hb1
        replace x_d := x_d.keep hb1
        replace z_a := z_a.keep hb1
        replace z10 := z10.keep hb1
        replace z11 := z11.keep hb1
        replace hb := bthen hb hb1
        clear hb1
        clear q_a0 f_a0 q_a1 f_a1; obtain ⟨q_a0, f_a0, q_a1, f_a1⟩ := x_a.al
        clear q_c0 f_c0 q_c1 f_c1; obtain ⟨q_c0, f_c0, q_c1, f_c1⟩ := x_c.al
        clear q_d0 f_d0 q_d1 f_d1; obtain ⟨q_d0, f_d0, q_d1, f_d1⟩ := x_d.al
        rw [show sgnI 0 = 0 from rfl]
        go_wp2_with fail
        with_reducible refine (ZSign_any z11.zr (by omega)).mono ?_
        rintro e v39 ⟨rfl, hb1⟩
        replace x_a := x_a.keep hb1
        replace x_c := x_c.keep hb1
        replace x_d := x_d.keep hb1
        replace z_a := z_a.keep hb1
        replace z10 := z10.keep hb1
        replace z11 := z11.keep hb1
        replace hb := bthen hb hb1
        clear hb1
        clear q_a0 f_a0 q_a1 f_a1; obtain ⟨q_a0, f_a0, q_a1, f_a1⟩ := x_a.al
        clear q_c0 f_c0 q_c1 f_c1; obtain ⟨q_c0, f_c0, q_c1, f_c1⟩ := x_c.al
        clear q_d0 f_d0 q_d1 f_d1; obtain ⟨q_d0, f_d0, q_d1, f_d1⟩ := x_d.al
        rw [show sgnI 0 = 0 from rfl]
        go_wp2_with fail
        go_roundw
        case rel => exact ⟨2, by omega, by go_num, hb, x_a, z_a⟩
        case measure => simp [intOf]
      · have hkv : K9 = true := by rw [hsp]; simp; omega
        have HKV := Lib.hid hkv
        clear hkv hsp i1 i2
        obtain ⟨q_a0, f_a0, q_a1, f_a1⟩ := x_a.al
        go_wp2_with fail
        with_reducible refine (ZSign_any z_a (by omega)).mono ?_
        rintro e v31 ⟨rfl, hb1⟩
        replace x_a := x_a.keep hb1
        replace z_a := z_a.keep hb1
        replace hb := bthen hb hb1
        clear hb1
        clear q_a0 f_a0 q_a1 f_a1; obtain ⟨q_a0, f_a0, q_a1, f_a1⟩ := x_a.al
        rw [HS1.out]
        go_wp2_with fail
        with_reducible refine (ZShl_any z_a 1 150 (by omega) (by omega)).mono ?_
        rintro e v32 ⟨A20, n20, c20, rfl, z20, hb1⟩
        replace x_a := x_a.keep hb1
        replace z_a := z_a.keep hb1
        replace hb := bthen hb hb1
        clear hb1
        clear q_a0 f_a0 q_a1 f_a1; obtain ⟨q_a0, f_a0, q_a1, f_a1⟩ := x_a.al
        go_wp2_with fail
        with_reducible refine (ZOf_any 1 (by omega) (by omega)).mono ?_
        rintro e v33 ⟨A21, n21, c21, rfl, z21, hb1⟩
        replace x_a := x_a.keep hb1
        replace z_a := z_a.keep hb1
        replace z20 := z20.keep hb1
        replace hb := bthen hb hb1
        clear hb1
        clear q_a0 f_a0 q_a1 f_a1; obtain ⟨q_a0, f_a0, q_a1, f_a1⟩ := x_a.al
        go_wp2_with fail
        with_reducible refine (ZShl_any z21.zr q 130 (by omega) (by omega)).mono ?_
        rintro e v34 ⟨A22, n22, c22, rfl, z22, hb1⟩
        replace x_a := x_a.keep hb1
        replace z_a := z_a.keep hb1
        replace z20 := z20.keep hb1
        replace z21 := z21.keep hb1
        replace hb := bthen hb hb1
        clear hb1
        clear q_a0 f_a0 q_a1 f_a1; obtain ⟨q_a0, f_a0, q_a1, f_a1⟩ := x_a.al
        rw [HD2.out] at z22 ⊢
        go_wp2_with fail
        with_reducible refine (ZCmp_any z20.zr z22.zr (by omega) (by omega)).mono ?_
        rintro e v35 ⟨rfl, hb1⟩
        replace x_a := x_a.keep hb1
        replace z_a := z_a.keep hb1
        replace z20 := z20.keep hb1
        replace z21 := z21.keep hb1
        replace z22 := z22.keep hb1
        replace hb := bthen hb hb1
        clear hb1
        clear q_a0 f_a0 q_a1 f_a1; obtain ⟨q_a0, f_a0, q_a1, f_a1⟩ := x_a.al
        rw [HS2.out]
        clear z20 z21 z22
        go_wp2_with fail
        with_reducible refine (Lsum_at z_a 1 1 rfl (by omega) q N (by omega)).mono ?_
        rintro e v36 ⟨P, R, x, ⟨A10, n10, c10, A11, n11, c11, rfl, z10, z11, hb1⟩, hc⟩
        replace x_a := x_a.keep hb1
        replace z_a := z_a.keep hb1
        replace hb := bthen hb hb1
        clear hb1
        clear q_a0 f_a0 q_a1 f_a1; obtain ⟨q_a0, f_a0, q_a1, f_a1⟩ := x_a.al
        have hdk : okB T q N (dK 1) = K9 := HK.out
        rw [hdk, HKV.out] at hc
        rcases hc with ⟨hyes, hP, hR, rfl⟩ | ⟨hno, rfl, rfl, rfl⟩
        rotate_left
        · cases hno
        clear hP hR hyes
        have y_a := ((x_a.alloc (.cells #[.bool (ngB P), .slice A10 n10 c10] 24)).alloc (.cells #[.bool (ngB R), .slice A11 n11 c11] 24)); have yq_a0 := y_a.c0; have yq_a1 := y_a.c1
        go_upto_region 19 with fail
        clear y_a yq_a0 yq_a1
        have l_a_c := x_a.lt
        have e_c : w.heap.size ≤ v36.heap.size := hb.size
        have hb1 := below_alloc2 v36 (.cells #[.bool (ngB P), .slice A10 n10 c10] 24) (.cells #[.bool (ngB R), .slice A11 n11 c11] 24)
        have x_c := (Bx.new v36 (ngB P) A10 n10 c10).alloc (.cells #[.bool (ngB R), .slice A11 n11 c11] 24)
        have x_d : Bx ((v36.alloc (.cells #[.bool (ngB P), .slice A10 n10 c10] 24)).alloc (.cells #[.bool (ngB R), .slice A11 n11 c11] 24)) (v36.heap.size + 1) (ngB R) A11 n11 c11 := by have := Bx.new (v36.alloc (.cells #[.bool (ngB P), .slice A10 n10 c10] 24)) (ngB R) A11 n11 c11; simpa using this
        clear q_a0 f_a0 q_a1 f_a1
        replace x_a := x_a.keep hb1
        replace z_a := z_a.keep hb1
        replace z10 := z10.keep hb1
        replace z11 := z11.keep hb1
        replace hb := bthen hb hb1
        clear hb1
        generalize (v36.alloc (.cells #[.bool (ngB P), .slice A10 n10 c10] 24)).alloc (.cells #[.bool (ngB R), .slice A11 n11 c11] 24) = v37 at *
        obtain ⟨q_a0, f_a0, q_a1, f_a1⟩ := x_a.al
        obtain ⟨q_c0, f_c0, q_c1, f_c1⟩ := x_c.al
        obtain ⟨q_d0, f_d0, q_d1, f_d1⟩ := x_d.al
        go_wp2_with fail
        go_roundw
        case rel => exact ⟨2, by omega, by go_num, hb, x_a, z_a⟩
        case measure => simp [intOf]
    · have hsp := okB_split T q N 1
      obtain ⟨K9, hK9⟩ : ∃ e, okB T q N 1 = e := ⟨_, rfl⟩
      obtain ⟨S1, hS1⟩ : ∃ e, sgnI T = e := ⟨_, rfl⟩
      obtain ⟨D2, hD2⟩ : ∃ e, (1 : Int) * 2 ^ sc q = e := ⟨_, rfl⟩
      obtain ⟨S2, hS2⟩ : ∃ e, sgnI (T * 2 ^ sc 1 - D2) = e := ⟨_, rfl⟩
      have i1 : 0 ≤ S1 ↔ 0 ≤ T := by rw [← hS1]; exact sgn_ge_iff
      have i2 : S2 ≤ 0 ↔ 2 * T ≤ D2 := by rw [← hS2, sgn_le_iff, show T * 2 ^ sc 1 = 2 * T by rw [show sc 1 = 1 from rfl]; omega]; omega
      rw [hK9, hD2] at hsp
      have HD2 := Lib.hid hD2; clear hD2
      have HK := Lib.hid hK9; have HS1 := Lib.hid hS1; have HS2 := Lib.hid hS2; clear hK9 hS1 hS2
      rcases (show ¬ 0 ≤ q ∨ (0 ≤ q ∧ ¬ q ≤ 1200) ∨ (0 ≤ q ∧ q ≤ 1200 ∧ ¬ 1 ≤ N) ∨ (0 ≤ q ∧ q ≤ 1200 ∧ 1 ≤ N ∧ ¬ N ≤ 400) ∨ (0 ≤ q ∧ q ≤ 1200 ∧ 1 ≤ N ∧ N ≤ 400 ∧ ¬ 0 ≤ S1) ∨ (0 ≤ q ∧ q ≤ 1200 ∧ 1 ≤ N ∧ N ≤ 400 ∧ 0 ≤ S1 ∧ ¬ S2 ≤ 0) ∨ (0 ≤ q ∧ q ≤ 1200 ∧ 1 ≤ N ∧ N ≤ 400 ∧ 0 ≤ S1 ∧ S2 ≤ 0) by omega) with o1 | ⟨o1, o2⟩ | ⟨o1, o2, o3⟩ | ⟨o1, o2, o3, o4⟩ | ⟨o1, o2, o3, o4, o5⟩ | ⟨o1, o2, o3, o4, o5, o6⟩ | ⟨o1, o2, o3, o4, o5, o6⟩
      · have hkv : K9 = false := by rw [hsp]; simp; omega
        have HKV := Lib.hid hkv
        clear hkv hsp i1 i2
        obtain ⟨q_a0, f_a0, q_a1, f_a1⟩ := x_a.al
        go_wp2_with fail
        with_reducible refine (Lsum_at z_a 2 2 rfl (by omega) q N (by omega)).mono ?_
        rintro e v31 ⟨P, R, x, ⟨A10, n10, c10, A11, n11, c11, rfl, z10, z11, hb1⟩, hc⟩
        replace x_a := x_a.keep hb1
        replace z_a := z_a.keep hb1
        replace hb := bthen hb hb1
        clear hb1
        clear q_a0 f_a0 q_a1 f_a1; obtain ⟨q_a0, f_a0, q_a1, f_a1⟩ := x_a.al
        have hdk : okB T q N (dK 2) = K9 := HK.out
        rw [hdk, HKV.out] at hc
        rcases hc with ⟨hyes, hP, hR, rfl⟩ | ⟨hno, rfl, rfl, rfl⟩
        · cases hyes
        clear hno
        have y_a := ((x_a.alloc (.cells #[.bool (ngB 0), .slice A10 n10 c10] 24)).alloc (.cells #[.bool (ngB 0), .slice A11 n11 c11] 24)); have yq_a0 := y_a.c0; have yq_a1 := y_a.c1
        go_upto_region 19 with fail
        clear y_a yq_a0 yq_a1
        have l_a_c := x_a.lt
        have e_c : w.heap.size ≤ v31.heap.size := hb.size
        have hb1 := below_alloc2 v31 (.cells #[.bool (ngB 0), .slice A10 n10 c10] 24) (.cells #[.bool (ngB 0), .slice A11 n11 c11] 24)
        have x_c := (Bx.new v31 (ngB 0) A10 n10 c10).alloc (.cells #[.bool (ngB 0), .slice A11 n11 c11] 24)
        have x_d : Bx ((v31.alloc (.cells #[.bool (ngB 0), .slice A10 n10 c10] 24)).alloc (.cells #[.bool (ngB 0), .slice A11 n11 c11] 24)) (v31.heap.size + 1) (ngB 0) A11 n11 c11 := by have := Bx.new (v31.alloc (.cells #[.bool (ngB 0), .slice A10 n10 c10] 24)) (ngB 0) A11 n11 c11; simpa using this
        clear q_a0 f_a0 q_a1 f_a1
        replace x_a := x_a.keep hb1
        replace z_a := z_a.keep hb1
        replace z10 := z10.keep hb1
        replace z11 := z11.keep hb1
        replace hb := bthen hb hb1
        clear hb1
        generalize (v31.alloc (.cells #[.bool (ngB 0), .slice A10 n10 c10] 24)).alloc (.cells #[.bool (ngB 0), .slice A11 n11 c11] 24) = v32 at *
        obtain ⟨q_a0, f_a0, q_a1, f_a1⟩ := x_a.al
        obtain ⟨q_c0, f_c0, q_c1, f_c1⟩ := x_c.al
        obtain ⟨q_d0, f_d0, q_d1, f_d1⟩ := x_d.al
        go_wp2_with fail
        with_reducible refine (ZSign_any z10.zr (by omega)).mono ?_
        rintro e v33 ⟨rfl, hb1⟩
        replace x_a := x_a.keep hb1
        replace x_c := x_c.keep hb1
        replace x_d := x_d.keep hb1
        replace z_a := z_a.keep hb1
        replace z10 := z10.keep hb1
        replace z11 := z11.keep hb1
        replace hb := bthen hb hb1
        clear hb1
        clear q_a0 f_a0 q_a1 f_a1; obtain ⟨q_a0, f_a0, q_a1, f_a1⟩ := x_a.al
        clear q_c0 f_c0 q_c1 f_c1; obtain ⟨q_c0, f_c0, q_c1, f_c1⟩ := x_c.al
        clear q_d0 f_d0 q_d1 f_d1; obtain ⟨q_d0, f_d0, q_d1, f_d1⟩ := x_d.al
        rw [show sgnI 0 = 0 from rfl]
        go_wp2_with fail
        with_reducible refine (ZSign_any z11.zr (by omega)).mono ?_
        rintro e v34 ⟨rfl, hb1⟩
        replace x_a := x_a.keep hb1
        replace x_c := x_c.keep hb1
        replace x_d := x_d.keep hb1
        replace z_a := z_a.keep hb1
        replace z10 := z10.keep hb1
        replace z11 := z11.keep hb1
        replace hb := bthen hb hb1
        clear hb1
        clear q_a0 f_a0 q_a1 f_a1; obtain ⟨q_a0, f_a0, q_a1, f_a1⟩ := x_a.al
        clear q_c0 f_c0 q_c1 f_c1; obtain ⟨q_c0, f_c0, q_c1, f_c1⟩ := x_c.al
        clear q_d0 f_d0 q_d1 f_d1; obtain ⟨q_d0, f_d0, q_d1, f_d1⟩ := x_d.al
        rw [show sgnI 0 = 0 from rfl]
        go_wp2_with fail
        go_roundw
        case rel => exact ⟨3, by omega, by go_num, hb, x_a, z_a⟩
        case measure => simp [intOf]
      · have hkv : K9 = false := by rw [hsp]; simp; omega
        have HKV := Lib.hid hkv
        clear hkv hsp i1 i2
        obtain ⟨q_a0, f_a0, q_a1, f_a1⟩ := x_a.al
        go_wp2_with fail
        with_reducible refine (Lsum_at z_a 2 2 rfl (by omega) q N (by omega)).mono ?_
        rintro e v31 ⟨P, R, x, ⟨A10, n10, c10, A11, n11, c11, rfl, z10, z11, hb1⟩, hc⟩
        replace x_a := x_a.keep hb1
        replace z_a := z_a.keep hb1
        replace hb := bthen hb hb1
        clear hb1
        clear q_a0 f_a0 q_a1 f_a1; obtain ⟨q_a0, f_a0, q_a1, f_a1⟩ := x_a.al
        have hdk : okB T q N (dK 2) = K9 := HK.out
        rw [hdk, HKV.out] at hc
        rcases hc with ⟨hyes, hP, hR, rfl⟩ | ⟨hno, rfl, rfl, rfl⟩
        · cases hyes
        clear hno
        have y_a := ((x_a.alloc (.cells #[.bool (ngB 0), .slice A10 n10 c10] 24)).alloc (.cells #[.bool (ngB 0), .slice A11 n11 c11] 24)); have yq_a0 := y_a.c0; have yq_a1 := y_a.c1
        go_upto_region 19 with fail
        clear y_a yq_a0 yq_a1
        have l_a_c := x_a.lt
        have e_c : w.heap.size ≤ v31.heap.size := hb.size
        have hb1 := below_alloc2 v31 (.cells #[.bool (ngB 0), .slice A10 n10 c10] 24) (.cells #[.bool (ngB 0), .slice A11 n11 c11] 24)
        have x_c := (Bx.new v31 (ngB 0) A10 n10 c10).alloc (.cells #[.bool (ngB 0), .slice A11 n11 c11] 24)
        have x_d : Bx ((v31.alloc (.cells #[.bool (ngB 0), .slice A10 n10 c10] 24)).alloc (.cells #[.bool (ngB 0), .slice A11 n11 c11] 24)) (v31.heap.size + 1) (ngB 0) A11 n11 c11 := by have := Bx.new (v31.alloc (.cells #[.bool (ngB 0), .slice A10 n10 c10] 24)) (ngB 0) A11 n11 c11; simpa using this
        clear q_a0 f_a0 q_a1 f_a1
        replace x_a := x_a.keep hb1
        replace z_a := z_a.keep hb1
        replace z10 := z10.keep hb1
        replace z11 := z11.keep hb1
        replace hb := bthen hb hb1
        clear hb1
        generalize (v31.alloc (.cells #[.bool (ngB 0), .slice A10 n10 c10] 24)).alloc (.cells #[.bool (ngB 0), .slice A11 n11 c11] 24) = v32 at *
        obtain ⟨q_a0, f_a0, q_a1, f_a1⟩ := x_a.al
        obtain ⟨q_c0, f_c0, q_c1, f_c1⟩ := x_c.al
        obtain ⟨q_d0, f_d0, q_d1, f_d1⟩ := x_d.al
        go_wp2_with fail
        with_reducible refine (ZSign_any z10.zr (by omega)).mono ?_
        rintro e v33 ⟨rfl, hb1⟩
        replace x_a := x_a.keep hb1
        replace x_c := x_c.keep hb1
        replace x_d := x_d.keep hb1
        replace z_a := z_a.keep hb1
        replace z10 := z10.keep hb1
        replace z11 := z11.keep hb1
        replace hb := bthen hb hb1
        clear hb1
        clear q_a0 f_a0 q_a1 f_a1; obtain ⟨q_a0, f_a0, q_a1, f_a1⟩ := x_a.al
        clear q_c0 f_c0 q_c1 f_c1; obtain ⟨q_c0, f_c0, q_c1, f_c1⟩ := x_c.al
        clear q_d0 f_d0 q_d1 f_d1; obtain ⟨q_d0, f_d0, q_d1, f_d1⟩ := x_d.al
        rw [show sgnI 0 = 0 from rfl]
        go_wp2_with fail
        with_reducible refine (ZSign_any z11.zr (by omega)).mono ?_
        rintro e v34 ⟨rfl, hb1⟩
        replace x_a := x_a.keep hb1
        replace x_c := x_c.keep hb1
        replace x_d := x_d.keep hb1
        replace z_a := z_a.keep hb1
        replace z10 := z10.keep hb1
        replace z11 := z11.keep hb1
        replace hb := bthen hb hb1
        clear hb1
        clear q_a0 f_a0 q_a1 f_a1; obtain ⟨q_a0, f_a0, q_a1, f_a1⟩ := x_a.al
        clear q_c0 f_c0 q_c1 f_c1; obtain ⟨q_c0, f_c0, q_c1, f_c1⟩ := x_c.al
        clear q_d0 f_d0 q_d1 f_d1; obtain ⟨q_d0, f_d0, q_d1, f_d1⟩ := x_d.al
        rw [show sgnI 0 = 0 from rfl]
        go_wp2_with fail
        go_roundw
        case rel => exact ⟨3, by omega, by go_num, hb, x_a, z_a⟩
        case measure => simp [intOf]
      · have hkv : K9 = false := by rw [hsp]; simp; omega
        have HKV := Lib.hid hkv
        clear hkv hsp i1 i2
        obtain ⟨q_a0, f_a0, q_a1, f_a1⟩ := x_a.al
        go_wp2_with fail
        with_reducible refine (Lsum_at z_a 2 2 rfl (by omega) q N (by omega)).mono ?_
        rintro e v31 ⟨P, R, x, ⟨A10, n10, c10, A11, n11, c11, rfl, z10, z11, hb1⟩, hc⟩
        replace x_a := x_a.keep hb1
        replace z_a := z_a.keep hb1
        replace hb := bthen hb hb1
        clear hb1
        clear q_a0 f_a0 q_a1 f_a1; obtain ⟨q_a0, f_a0, q_a1, f_a1⟩ := x_a.al
        have hdk : okB T q N (dK 2) = K9 := HK.out
        rw [hdk, HKV.out] at hc
        rcases hc with ⟨hyes, hP, hR, rfl⟩ | ⟨hno, rfl, rfl, rfl⟩
        · cases hyes
        clear hno
        have y_a := ((x_a.alloc (.cells #[.bool (ngB 0), .slice A10 n10 c10] 24)).alloc (.cells #[.bool (ngB 0), .slice A11 n11 c11] 24)); have yq_a0 := y_a.c0; have yq_a1 := y_a.c1
        go_upto_region 19 with fail
        clear y_a yq_a0 yq_a1
        have l_a_c := x_a.lt
        have e_c : w.heap.size ≤ v31.heap.size := hb.size
        have hb1 := below_alloc2 v31 (.cells #[.bool (ngB 0), .slice A10 n10 c10] 24) (.cells #[.bool (ngB 0), .slice A11 n11 c11] 24)
        have x_c := (Bx.new v31 (ngB 0) A10 n10 c10).alloc (.cells #[.bool (ngB 0), .slice A11 n11 c11] 24)
        have x_d : Bx ((v31.alloc (.cells #[.bool (ngB 0), .slice A10 n10 c10] 24)).alloc (.cells #[.bool (ngB 0), .slice A11 n11 c11] 24)) (v31.heap.size + 1) (ngB 0) A11 n11 c11 := by have := Bx.new (v31.alloc (.cells #[.bool (ngB 0), .slice A10 n10 c10] 24)) (ngB 0) A11 n11 c11; simpa using this
        clear q_a0 f_a0 q_a1 f_a1
        replace x_a := x_a.keep hb1
        replace z_a := z_a.keep hb1
        replace z10 := z10.keep hb1
        replace z11 := z11.keep hb1
        replace hb := bthen hb hb1
        clear hb1
        generalize (v31.alloc (.cells #[.bool (ngB 0), .slice A10 n10 c10] 24)).alloc (.cells #[.bool (ngB 0), .slice A11 n11 c11] 24) = v32 at *
        obtain ⟨q_a0, f_a0, q_a1, f_a1⟩ := x_a.al
        obtain ⟨q_c0, f_c0, q_c1, f_c1⟩ := x_c.al
        obtain ⟨q_d0, f_d0, q_d1, f_d1⟩ := x_d.al
        go_wp2_with fail
        with_reducible refine (ZSign_any z10.zr (by omega)).mono ?_
        rintro e v33 ⟨rfl, hb1⟩
        replace x_a := x_a.keep hb1
        replace x_c := x_c.keep hb1
        replace x_d := x_d.keep hb1
        replace z_a := z_a.keep hb1
        replace z10 := z10.keep hb1
        replace z11 := z11.keep hb1
        replace hb := bthen hb hb1
        clear hb1
        clear q_a0 f_a0 q_a1 f_a1; obtain ⟨q_a0, f_a0, q_a1, f_a1⟩ := x_a.al
        clear q_c0 f_c0 q_c1 f_c1; obtain ⟨q_c0, f_c0, q_c1, f_c1⟩ := x_c.al
        clear q_d0 f_d0 q_d1 f_d1; obtain ⟨q_d0, f_d0, q_d1, f_d1⟩ := x_d.al
        rw [show sgnI 0 = 0 from rfl]
        go_wp2_with fail
        with_reducible refine (ZSign_any z11.zr (by omega)).mono ?_
        rintro e v34 ⟨rfl, hb1⟩
        replace x_a := x_a.keep hb1
        replace x_c := x_c.keep hb1
        replace x_d := x_d.keep hb1
        replace z_a := z_a.keep hb1
        replace z10 := z10.keep hb1
        replace z11 := z11.keep hb1
        replace hb := bthen hb hb1
        clear hb1
        clear q_a0 f_a0 q_a1 f_a1; obtain ⟨q_a0, f_a0, q_a1, f_a1⟩ := x_a.al
        clear q_c0 f_c0 q_c1 f_c1; obtain ⟨q_c0, f_c0, q_c1, f_c1⟩ := x_c.al
        clear q_d0 f_d0 q_d1 f_d1; obtain ⟨q_d0, f_d0, q_d1, f_d1⟩ := x_d.al
        rw [show sgnI 0 = 0 from rfl]
        go_wp2_with fail
        go_roundw
        case rel => exact ⟨3, by omega, by go_num, hb, x_a, z_a⟩
        case measure => simp [intOf]
      · have hkv : K9 = false := by rw [hsp]; simp; omega
        have HKV := Lib.hid hkv
        clear hkv hsp i1 i2
        obtain ⟨q_a0, f_a0, q_a1, f_a1⟩ := x_a.al
        go_wp2_with fail
        with_reducible refine (Lsum_at z_a 2 2 rfl (by omega) q N (by omega)).mono ?_
        rintro e v31 ⟨P, R, x, ⟨A10, n10, c10, A11, n11, c11, rfl, z10, z11, hb1⟩, hc⟩
        replace x_a := x_a.keep hb1
        replace z_a := z_a.keep hb1
        replace hb := bthen hb hb1
        clear hb1
        clear q_a0 f_a0 q_a1 f_a1; obtain ⟨q_a0, f_a0, q_a1, f_a1⟩ := x_a.al
        have hdk : okB T q N (dK 2) = K9 := HK.out
        rw [hdk, HKV.out] at hc
        rcases hc with ⟨hyes, hP, hR, rfl⟩ | ⟨hno, rfl, rfl, rfl⟩
        · cases hyes
        clear hno
        have y_a := ((x_a.alloc (.cells #[.bool (ngB 0), .slice A10 n10 c10] 24)).alloc (.cells #[.bool (ngB 0), .slice A11 n11 c11] 24)); have yq_a0 := y_a.c0; have yq_a1 := y_a.c1
        go_upto_region 19 with fail
        clear y_a yq_a0 yq_a1
        have l_a_c := x_a.lt
        have e_c : w.heap.size ≤ v31.heap.size := hb.size
        have hb1 := below_alloc2 v31 (.cells #[.bool (ngB 0), .slice A10 n10 c10] 24) (.cells #[.bool (ngB 0), .slice A11 n11 c11] 24)
        have x_c := (Bx.new v31 (ngB 0) A10 n10 c10).alloc (.cells #[.bool (ngB 0), .slice A11 n11 c11] 24)
        have x_d : Bx ((v31.alloc (.cells #[.bool (ngB 0), .slice A10 n10 c10] 24)).alloc (.cells #[.bool (ngB 0), .slice A11 n11 c11] 24)) (v31.heap.size + 1) (ngB 0) A11 n11 c11 := by have := Bx.new (v31.alloc (.cells #[.bool (ngB 0), .slice A10 n10 c10] 24)) (ngB 0) A11 n11 c11; simpa using this
        clear q_a0 f_a0 q_a1 f_a1
        replace x_a := x_a.keep hb1
        replace z_a := z_a.keep hb1
        replace z10 := z10.keep hb1
        replace z11 := z11.keep hb1
        replace hb := bthen hb hb1
        clear hb1
        generalize (v31.alloc (.cells #[.bool (ngB 0), .slice A10 n10 c10] 24)).alloc (.cells #[.bool (ngB 0), .slice A11 n11 c11] 24) = v32 at *
        obtain ⟨q_a0, f_a0, q_a1, f_a1⟩ := x_a.al
        obtain ⟨q_c0, f_c0, q_c1, f_c1⟩ := x_c.al
        obtain ⟨q_d0, f_d0, q_d1, f_d1⟩ := x_d.al
        go_wp2_with fail
        with_reducible refine (ZSign_any z10.zr (by omega)).mono ?_
        rintro e v33 ⟨rfl, hb1⟩
        replace x_a := x_a.keep hb1
        replace x_c := x_c.keep hb1
        replace x_d := x_d.keep hb1
        replace z_a := z_a.keep hb1
        replace z10 := z10.keep hb1
        replace z11 := z11.keep hb1
        replace hb := bthen hb hb1
        clear hb1
        clear q_a0 f_a0 q_a1 f_a1; obtain ⟨q_a0, f_a0, q_a1, f_a1⟩ := x_a.al
        clear q_c0 f_c0 q_c1 f_c1; obtain ⟨q_c0, f_c0, q_c1, f_c1⟩ := x_c.al
        clear q_d0 f_d0 q_d1 f_d1; obtain ⟨q_d0, f_d0, q_d1, f_d1⟩ := x_d.al
        rw [show sgnI 0 = 0 from rfl]
        go_wp2_with fail
        with_reducible refine (ZSign_any z11.zr (by omega)).mono ?_
        rintro e v34 ⟨rfl, hb1⟩
        replace x_a := x_a.keep hb1
        replace x_c := x_c.keep hb1
        replace x_d := x_d.keep hb1
        replace z_a := z_a.keep hb1
        replace z10 := z10.keep hb1
        replace z11 := z11.keep hb1
        replace hb := bthen hb hb1
        clear hb1
        clear q_a0 f_a0 q_a1 f_a1; obtain ⟨q_a0, f_a0, q_a1, f_a1⟩ := x_a.al
        clear q_c0 f_c0 q_c1 f_c1; obtain ⟨q_c0, f_c0, q_c1, f_c1⟩ := x_c.al
        clear q_d0 f_d0 q_d1 f_d1; obtain ⟨q_d0, f_d0, q_d1, f_d1⟩ := x_d.al
        rw [show sgnI 0 = 0 from rfl]
        go_wp2_with fail
        go_roundw
        case rel => exact ⟨3, by omega, by go_num, hb, x_a, z_a⟩
        case measure => simp [intOf]
      · have hkv : K9 = false := by rw [hsp]; simp; omega
        have HKV := Lib.hid hkv
        clear hkv hsp i1 i2
        obtain ⟨q_a0, f_a0, q_a1, f_a1⟩ := x_a.al
        go_wp2_with fail
        with_reducible refine (ZSign_any z_a (by omega)).mono ?_
        rintro e v31 ⟨rfl, hb1⟩
        replace x_a := x_a.keep hb1
        replace z_a := z_a.keep hb1
        replace hb := bthen hb hb1
        clear hb1
        clear q_a0 f_a0 q_a1 f_a1; obtain ⟨q_a0, f_a0, q_a1, f_a1⟩ := x_a.al
        rw [HS1.out]
        go_wp2_with fail
        with_reducible refine (Lsum_at z_a 2 2 rfl (by omega) q N (by omega)).mono ?_
        rintro e v32 ⟨P, R, x, ⟨A10, n10, c10, A11, n11, c11, rfl, z10, z11, hb1⟩, hc⟩
        replace x_a := x_a.keep hb1
        replace z_a := z_a.keep hb1
        replace hb := bthen hb hb1
        clear hb1
        clear q_a0 f_a0 q_a1 f_a1; obtain ⟨q_a0, f_a0, q_a1, f_a1⟩ := x_a.al
        have hdk : okB T q N (dK 2) = K9 := HK.out
        rw [hdk, HKV.out] at hc
        rcases hc with ⟨hyes, hP, hR, rfl⟩ | ⟨hno, rfl, rfl, rfl⟩
        · cases hyes
        clear hno
        have y_a := ((x_a.alloc (.cells #[.bool (ngB 0), .slice A10 n10 c10] 24)).alloc (.cells #[.bool (ngB 0), .slice A11 n11 c11] 24)); have yq_a0 := y_a.c0; have yq_a1 := y_a.c1
        go_upto_region 19 with fail
        clear y_a yq_a0 yq_a1
        have l_a_c := x_a.lt
        have e_c : w.heap.size ≤ v32.heap.size := hb.size
        have hb1 := below_alloc2 v32 (.cells #[.bool (ngB 0), .slice A10 n10 c10] 24) (.cells #[.bool (ngB 0), .slice A11 n11 c11] 24)
        have x_c := (Bx.new v32 (ngB 0) A10 n10 c10).alloc (.cells #[.bool (ngB 0), .slice A11 n11 c11] 24)
        have x_d : Bx ((v32.alloc (.cells #[.bool (ngB 0), .slice A10 n10 c10] 24)).alloc (.cells #[.bool (ngB 0), .slice A11 n11 c11] 24)) (v32.heap.size + 1) (ngB 0) A11 n11 c11 := by have := Bx.new (v32.alloc (.cells #[.bool (ngB 0), .slice A10 n10 c10] 24)) (ngB 0) A11 n11 c11; simpa using this
        clear q_a0 f_a0 q_a1 f_a1
        replace x_a := x_a.keep hb1
        replace z_a := z_a.keep hb1
        replace z10 := z10.keep hb1
        replace z11 := z11.keep hb1
        replace hb := bthen hb hb1
        clear hb1
        generalize (v32.alloc (.cells #[.bool (ngB 0), .slice A10 n10 c10] 24)).alloc (.cells #[.bool (ngB 0), .slice A11 n11 c11] 24) = v33 at *
        obtain ⟨q_a0, f_a0, q_a1, f_a1⟩ := x_a.al
        obtain ⟨q_c0, f_c0, q_c1, f_c1⟩ := x_c.al
        obtain ⟨q_d0, f_d0, q_d1, f_d1⟩ := x_d.al
        go_wp2_with fail
        with_reducible refine (ZSign_any z10.zr (by omega)).mono ?_
        rintro e v34 ⟨rfl, hb1⟩
        replace x_a := x_a.keep hb1
        replace x_c := x_c.keep hb1
        replace x_d := x_d.keep hb1
        replace z_a := z_a.keep hb1
        replace z10 := z10.keep hb1
        replace z11 := z11.keep hb1
        replace hb := bthen hb hb1
        clear hb1
        clear q_a0 f_a0 q_a1 f_a1; obtain ⟨q_a0, f_a0, q_a1, f_a1⟩ := x_a.al
        clear q_c0 f_c0 q_c1 f_c1; obtain ⟨q_c0, f_c0, q_c1, f_c1⟩ := x_c.al
        clear q_d0 f_d0 q_d1 f_d1; obtain ⟨q_d0, f_d0, q_d1, f_d1⟩ := x_d.al
        rw [show sgnI 0 = 0 from rfl]
        go_wp2_with fail
        with_reducible refine (ZSign_any z11.zr (by omega)).mono ?_
        rintro e v35 ⟨rfl, hb1⟩
        replace x_a := x_a.keep hb1
        replace x_c := x_c.keep hb1
        replace x_d := x_d.keep hb1
        replace z_a := z_a.keep hb1
        replace z10 := z10.keep hb1
        replace z11 := z11.keep hb1
        replace hb := bthen hb hb1
        clear hb1
        clear q_a0 f_a0 q_a1 f_a1; obtain ⟨q_a0, f_a0, q_a1, f_a1⟩ := x_a.al
        clear q_c0 f_c0 q_c1 f_c1; obtain ⟨q_c0, f_c0, q_c1, f_c1⟩ := x_c.al
        clear q_d0 f_d0 q_d1 f_d1; obtain ⟨q_d0, f_d0, q_d1, f_d1⟩ := x_d.al
        rw [show sgnI 0 = 0 from rfl]
        go_wp2_with fail
        go_roundw
        case rel => exact ⟨3, by omega, by go_num, hb, x_a, z_a⟩
        case measure => simp [intOf]
      · have hkv : K9 = false := by rw [hsp]; simp; omega
        have HKV := Lib.hid hkv
        clear hkv hsp i1 i2
        obtain ⟨q_a0, f_a0, q_a1, f_a1⟩ := x_a.al
        go_wp2_with fail
        with_reducible refine (ZSign_any z_a (by omega)).mono ?_
        rintro e v31 ⟨rfl, hb1⟩
        replace x_a := x_a.keep hb1
        replace z_a := z_a.keep hb1
        replace hb := bthen hb hb1
        clear hb1
        clear q_a0 f_a0 q_a1 f_a1; obtain ⟨q_a0, f_a0, q_a1, f_a1⟩ := x_a.al
        rw [HS1.out]
        go_wp2_with fail
        with_reducible refine (ZShl_any z_a 1 150 (by omega) (by omega)).mono ?_
        rintro e v32 ⟨A20, n20, c20, rfl, z20, hb1⟩
        replace x_a := x_a.keep hb1
        replace z_a := z_a.keep hb1
        replace hb := bthen hb hb1
        clear hb1
        clear q_a0 f_a0 q_a1 f_a1; obtain ⟨q_a0, f_a0, q_a1, f_a1⟩ := x_a.al
        go_wp2_with fail
        with_reducible refine (ZOf_any 1 (by omega) (by omega)).mono ?_
        rintro e v33 ⟨A21, n21, c21, rfl, z21, hb1⟩
        replace x_a := x_a.keep hb1
        replace z_a := z_a.keep hb1
        replace z20 := z20.keep hb1
        replace hb := bthen hb hb1
        clear hb1
        clear q_a0 f_a0 q_a1 f_a1; obtain ⟨q_a0, f_a0, q_a1, f_a1⟩ := x_a.al
        go_wp2_with fail
        with_reducible refine (ZShl_any z21.zr q 130 (by omega) (by omega)).mono ?_
        rintro e v34 ⟨A22, n22, c22, rfl, z22, hb1⟩
        replace x_a := x_a.keep hb1
        replace z_a := z_a.keep hb1
        replace z20 := z20.keep hb1
        replace z21 := z21.keep hb1
        replace hb := bthen hb hb1
        clear hb1
        clear q_a0 f_a0 q_a1 f_a1; obtain ⟨q_a0, f_a0, q_a1, f_a1⟩ := x_a.al
        rw [HD2.out] at z22 ⊢
        go_wp2_with fail
        with_reducible refine (ZCmp_any z20.zr z22.zr (by omega) (by omega)).mono ?_
        rintro e v35 ⟨rfl, hb1⟩
        replace x_a := x_a.keep hb1
        replace z_a := z_a.keep hb1
        replace z20 := z20.keep hb1
        replace z21 := z21.keep hb1
        replace z22 := z22.keep hb1
        replace hb := bthen hb hb1
        clear hb1
        clear q_a0 f_a0 q_a1 f_a1; obtain ⟨q_a0, f_a0, q_a1, f_a1⟩ := x_a.al
        rw [HS2.out]
        clear z20 z21 z22
        go_wp2_with fail
        with_reducible refine (Lsum_at z_a 2 2 rfl (by omega) q N (by omega)).mono ?_
        rintro e v36 ⟨P, R, x, ⟨A10, n10, c10, A11, n11, c11, rfl, z10, z11, hb1⟩, hc⟩
        replace x_a := x_a.keep hb1
        replace z_a := z_a.keep hb1
        replace hb := bthen hb hb1
        clear hb1
        clear q_a0 f_a0 q_a1 f_a1; obtain ⟨q_a0, f_a0, q_a1, f_a1⟩ := x_a.al
        have hdk : okB T q N (dK 2) = K9 := HK.out
        rw [hdk, HKV.out] at hc
        rcases hc with ⟨hyes, hP, hR, rfl⟩ | ⟨hno, rfl, rfl, rfl⟩
        · cases hyes
        clear hno
        have y_a := ((x_a.alloc (.cells #[.bool (ngB 0), .slice A10 n10 c10] 24)).alloc (.cells #[.bool (ngB 0), .slice A11 n11 c11] 24)); have yq_a0 := y_a.c0; have yq_a1 := y_a.c1
        go_upto_region 19 with fail
        clear y_a yq_a0 yq_a1
        have l_a_c := x_a.lt
        have e_c : w.heap.size ≤ v36.heap.size := hb.size
        have hb1 := below_alloc2 v36 (.cells #[.bool (ngB 0), .slice A10 n10 c10] 24) (.cells #[.bool (ngB 0), .slice A11 n11 c11] 24)
        have x_c := (Bx.new v36 (ngB 0) A10 n10 c10).alloc (.cells #[.bool (ngB 0), .slice A11 n11 c11] 24)
        have x_d : Bx ((v36.alloc (.cells #[.bool (ngB 0), .slice A10 n10 c10] 24)).alloc (.cells #[.bool (ngB 0), .slice A11 n11 c11] 24)) (v36.heap.size + 1) (ngB 0) A11 n11 c11 := by have := Bx.new (v36.alloc (.cells #[.bool (ngB 0), .slice A10 n10 c10] 24)) (ngB 0) A11 n11 c11; simpa using this
        clear q_a0 f_a0 q_a1 f_a1
        replace x_a := x_a.keep hb1
        replace z_a := z_a.keep hb1
        replace z10 := z10.keep hb1
        replace z11 := z11.keep hb1
        replace hb := bthen hb hb1
        clear hb1
        generalize (v36.alloc (.cells #[.bool (ngB 0), .slice A10 n10 c10] 24)).alloc (.cells #[.bool (ngB 0), .slice A11 n11 c11] 24) = v37 at *
        obtain ⟨q_a0, f_a0, q_a1, f_a1⟩ := x_a.al
        obtain ⟨q_c0, f_c0, q_c1, f_c1⟩ := x_c.al
        obtain ⟨q_d0, f_d0, q_d1, f_d1⟩ := x_d.al
        go_wp2_with fail
        with_reducible refine (ZSign_any z10.zr (by omega)).mono ?_
        rintro e v38 ⟨rfl, hb1⟩
        replace x_a := x_a.keep hb1
        replace x_c := x_c.keep hb1
        replace x_d := x_d.keep hb1
        replace z_a := z_a.keep hb1
        replace z10 := z10.keep hb1
        replace z11 := z11.keep hb1
        replace hb := bthen hb hb1
        clear hb1
        clear q_a0 f_a0 q_a1 f_a1; obtain ⟨q_a0, f_a0, q_a1, f_a1⟩ := x_a.al
        clear q_c0 f_c0 q_c1 f_c1; obtain ⟨q_c0, f_c0, q_c1, f_c1⟩ := x_c.al
        clear q_d0 f_d0 q_d1 f_d1; obtain ⟨q_d0, f_d0, q_d1, f_d1⟩ := x_d.al
        rw [show sgnI 0 = 0 from rfl]
        go_wp2_with fail
        with_reducible refine (ZSign_any z11.zr (by omega)).mono ?_
        rintro e v39 ⟨rfl, hb1⟩
        replace x_a := x_a.keep hb1
        replace x_c := x_c.keep hb1
        replace x_d := x_d.keep hb1
        replace z_a := z_a.keep hb1
        replace z10 := z10.keep hb1
        replace z11 := z11.keep hb1
        replace hb := bthen hb hb1
        clear hb1
        clear q_a0 f_a0 q_a1 f_a1; obtain ⟨q_a0, f_a0, q_a1, f_a1⟩ := x_a.al
        clear q_c0 f_c0 q_c1 f_c1; obtain ⟨q_c0, f_c0, q_c1, f_c1⟩ := x_c.al
        clear q_d0 f_d0 q_d1 f_d1; obtain ⟨q_d0, f_d0, q_d1, f_d1⟩ := x_d.al
        rw [show sgnI 0 = 0 from rfl]
        go_wp2_with fail
        go_roundw
        case rel => exact ⟨3, by omega, by go_num, hb, x_a, z_a⟩
        case measure => simp [intOf]
      · have hkv : K9 = true := by rw [hsp]; simp; omega
        have HKV := Lib.hid hkv
        clear hkv hsp i1 i2
        obtain ⟨q_a0, f_a0, q_a1, f_a1⟩ := x_a.al
        go_wp2_with fail
        with_reducible refine (ZSign_any z_a (by omega)).mono ?_
        rintro e v31 ⟨rfl, hb1⟩
        replace x_a := x_a.keep hb1
        replace z_a := z_a.keep hb1
        replace hb := bthen hb hb1
        clear hb1
        clear q_a0 f_a0 q_a1 f_a1; obtain ⟨q_a0, f_a0, q_a1, f_a1⟩ := x_a.al
        rw [HS1.out]
        go_wp2_with fail
        with_reducible refine (ZShl_any z_a 1 150 (by omega) (by omega)).mono ?_
        rintro e v32 ⟨A20, n20, c20, rfl, z20, hb1⟩
        replace x_a := x_a.keep hb1
        replace z_a := z_a.keep hb1
        replace hb := bthen hb hb1
        clear hb1
        clear q_a0 f_a0 q_a1 f_a1; obtain ⟨q_a0, f_a0, q_a1, f_a1⟩ := x_a.al
        go_wp2_with fail
        with_reducible refine (ZOf_any 1 (by omega) (by omega)).mono ?_
        rintro e v33 ⟨A21, n21, c21, rfl, z21, hb1⟩
        replace x_a := x_a.keep hb1
        replace z_a := z_a.keep hb1
        replace z20 := z20.keep hb1
        replace hb := bthen hb hb1
        clear hb1
        clear q_a0 f_a0 q_a1 f_a1; obtain ⟨q_a0, f_a0, q_a1, f_a1⟩ := x_a.al
        go_wp2_with fail
        with_reducible refine (ZShl_any z21.zr q 130 (by omega) (by omega)).mono ?_
        rintro e v34 ⟨A22, n22, c22, rfl, z22, hb1⟩
        replace x_a := x_a.keep hb1
        replace z_a := z_a.keep hb1
        replace z20 := z20.keep hb1
        replace z21 := z21.keep hb1
        replace hb := bthen hb hb1
        clear hb1
        clear q_a0 f_a0 q_a1 f_a1; obtain ⟨q_a0, f_a0, q_a1, f_a1⟩ := x_a.al
        rw [HD2.out] at z22 ⊢
        go_wp2_with fail
        with_reducible refine (ZCmp_any z20.zr z22.zr (by omega) (by omega)).mono ?_
        rintro e v35 ⟨rfl, hb1⟩
        replace x_a := x_a.keep hb1
        replace z_a := z_a.keep hb1
        replace z20 := z20.keep hb1
        replace z21 := z21.keep hb1
        replace z22 := z22.keep hb1
        replace hb := bthen hb hb1
        clear hb1
        clear q_a0 f_a0 q_a1 f_a1; obtain ⟨q_a0, f_a0, q_a1, f_a1⟩ := x_a.al
        rw [HS2.out]
        clear z20 z21 z22
        go_wp2_with fail
        with_reducible refine (Lsum_at z_a 2 2 rfl (by omega) q N (by omega)).mono ?_
        rintro e v36 ⟨P, R, x, ⟨A10, n10, c10, A11, n11, c11, rfl, z10, z11, hb1⟩, hc⟩
        replace x_a := x_a.keep hb1
        replace z_a := z_a.keep hb1
        replace hb := bthen hb hb1
        clear hb1
        clear q_a0 f_a0 q_a1 f_a1; obtain ⟨q_a0, f_a0, q_a1, f_a1⟩ := x_a.al
        have hdk : okB T q N (dK 2) = K9 := HK.out
        rw [hdk, HKV.out] at hc
        rcases hc with ⟨hyes, hP, hR, rfl⟩ | ⟨hno, rfl, rfl, rfl⟩
        rotate_left
        · cases hno
        clear hP hR hyes
        have y_a := ((x_a.alloc (.cells #[.bool (ngB P), .slice A10 n10 c10] 24)).alloc (.cells #[.bool (ngB R), .slice A11 n11 c11] 24)); have yq_a0 := y_a.c0; have yq_a1 := y_a.c1
        go_upto_region 19 with fail
        clear y_a yq_a0 yq_a1
        have l_a_c := x_a.lt
        have e_c : w.heap.size ≤ v36.heap.size := hb.size
        have hb1 := below_alloc2 v36 (.cells #[.bool (ngB P), .slice A10 n10 c10] 24) (.cells #[.bool (ngB R), .slice A11 n11 c11] 24)
        have x_c := (Bx.new v36 (ngB P) A10 n10 c10).alloc (.cells #[.bool (ngB R), .slice A11 n11 c11] 24)
        have x_d : Bx ((v36.alloc (.cells #[.bool (ngB P), .slice A10 n10 c10] 24)).alloc (.cells #[.bool (ngB R), .slice A11 n11 c11] 24)) (v36.heap.size + 1) (ngB R) A11 n11 c11 := by have := Bx.new (v36.alloc (.cells #[.bool (ngB P), .slice A10 n10 c10] 24)) (ngB R) A11 n11 c11; simpa using this
        clear q_a0 f_a0 q_a1 f_a1
        replace x_a := x_a.keep hb1
        replace z_a := z_a.keep hb1
        replace z10 := z10.keep hb1
        replace z11 := z11.keep hb1
        replace hb := bthen hb hb1
        clear hb1
        generalize (v36.alloc (.cells #[.bool (ngB P), .slice A10 n10 c10] 24)).alloc (.cells #[.bool (ngB R), .slice A11 n11 c11] 24) = v37 at *
        obtain ⟨q_a0, f_a0, q_a1, f_a1⟩ := x_a.al
        obtain ⟨q_c0, f_c0, q_c1, f_c1⟩ := x_c.al
        obtain ⟨q_d0, f_d0, q_d1, f_d1⟩ := x_d.al
        go_wp2_with fail
        go_roundw
        case rel => exact ⟨3, by omega, by go_num, hb, x_a, z_a⟩
        case measure => simp [intOf]
    · have hsp := okB_split T q N 4
      obtain ⟨K9, hK9⟩ : ∃ e, okB T q N 4 = e := ⟨_, rfl⟩
      obtain ⟨S1, hS1⟩ : ∃ e, sgnI T = e := ⟨_, rfl⟩
      obtain ⟨D2, hD2⟩ : ∃ e, (4 : Int) * 2 ^ sc q = e := ⟨_, rfl⟩
      obtain ⟨S2, hS2⟩ : ∃ e, sgnI (T * 2 ^ sc 1 - D2) = e := ⟨_, rfl⟩
      have i1 : 0 ≤ S1 ↔ 0 ≤ T := by rw [← hS1]; exact sgn_ge_iff
      have i2 : S2 ≤ 0 ↔ 2 * T ≤ D2 := by rw [← hS2, sgn_le_iff, show T * 2 ^ sc 1 = 2 * T by rw [show sc 1 = 1 from rfl]; omega]; omega
      rw [hK9, hD2] at hsp
      have HD2 := Lib.hid hD2; clear hD2
      have HK := Lib.hid hK9; have HS1 := Lib.hid hS1; have HS2 := Lib.hid hS2; clear hK9 hS1 hS2
      rcases (show ¬ 0 ≤ q ∨ (0 ≤ q ∧ ¬ q ≤ 1200) ∨ (0 ≤ q ∧ q ≤ 1200 ∧ ¬ 1 ≤ N) ∨ (0 ≤ q ∧ q ≤ 1200 ∧ 1 ≤ N ∧ ¬ N ≤ 400) ∨ (0 ≤ q ∧ q ≤ 1200 ∧ 1 ≤ N ∧ N ≤ 400 ∧ ¬ 0 ≤ S1) ∨ (0 ≤ q ∧ q ≤ 1200 ∧ 1 ≤ N ∧ N ≤ 400 ∧ 0 ≤ S1 ∧ ¬ S2 ≤ 0) ∨ (0 ≤ q ∧ q ≤ 1200 ∧ 1 ≤ N ∧ N ≤ 400 ∧ 0 ≤ S1 ∧ S2 ≤ 0) by omega) with o1 | ⟨o1, o2⟩ | ⟨o1, o2, o3⟩ | ⟨o1, o2, o3, o4⟩ | ⟨o1, o2, o3, o4, o5⟩ | ⟨o1, o2, o3, o4, o5, o6⟩ | ⟨o1, o2, o3, o4, o5, o6⟩
      · have hkv : K9 = false := by rw [hsp]; simp; omega
        have HKV := Lib.hid hkv
        clear hkv hsp i1 i2
        obtain ⟨q_a0, f_a0, q_a1, f_a1⟩ := x_a.al
        go_wp2_with fail
        with_reducible refine (Lsum_at z_a 3 3 rfl (by omega) q N (by omega)).mono ?_
        rintro e v31 ⟨P, R, x, ⟨A10, n10, c10, A11, n11, c11, rfl, z10, z11, hb1⟩, hc⟩
        replace x_a := x_a.keep hb1
        replace z_a := z_a.keep hb1
        replace hb := bthen hb hb1
        clear hb1
        clear q_a0 f_a0 q_a1 f_a1; obtain ⟨q_a0, f_a0, q_a1, f_a1⟩ := x_a.al
        have hdk : okB T q N (dK 3) = K9 := HK.out
        rw [hdk, HKV.out] at hc
        rcases hc with ⟨hyes, hP, hR, rfl⟩ | ⟨hno, rfl, rfl, rfl⟩
        · cases hyes
        clear hno
        have y_a := ((x_a.alloc (.cells #[.bool (ngB 0), .slice A10 n10 c10] 24)).alloc (.cells #[.bool (ngB 0), .slice A11 n11 c11] 24)); have yq_a0 := y_a.c0; have yq_a1 := y_a.c1
        go_upto_region 19 with fail
        clear y_a yq_a0 yq_a1
        have l_a_c := x_a.lt
        have e_c : w.heap.size ≤ v31.heap.size := hb.size
        have hb1 := below_alloc2 v31 (.cells #[.bool (ngB 0), .slice A10 n10 c10] 24) (.cells #[.bool (ngB 0), .slice A11 n11 c11] 24)
        have x_c := (Bx.new v31 (ngB 0) A10 n10 c10).alloc (.cells #[.bool (ngB 0), .slice A11 n11 c11] 24)
        have x_d : Bx ((v31.alloc (.cells #[.bool (ngB 0), .slice A10 n10 c10] 24)).alloc (.cells #[.bool (ngB 0), .slice A11 n11 c11] 24)) (v31.heap.size + 1) (ngB 0) A11 n11 c11 := by have := Bx.new (v31.alloc (.cells #[.bool (ngB 0), .slice A10 n10 c10] 24)) (ngB 0) A11 n11 c11; simpa using this
        clear q_a0 f_a0 q_a1 f_a1
        replace x_a := x_a.keep hb1
        replace z_a := z_a.keep hb1
        replace z10 := z10.keep hb1
        replace z11 := z11.keep hb1
        replace hb := bthen hb hb1
        clear hb1
        generalize (v31.alloc (.cells #[.bool (ngB 0), .slice A10 n10 c10] 24)).alloc (.cells #[.bool (ngB 0), .slice A11 n11 c11] 24) = v32 at *
        obtain ⟨q_a0, f_a0, q_a1, f_a1⟩ := x_a.al
        obtain ⟨q_c0, f_c0, q_c1, f_c1⟩ := x_c.al
        obtain ⟨q_d0, f_d0, q_d1, f_d1⟩ := x_d.al
        go_wp2_with fail
        with_reducible refine (ZSign_any z10.zr (by omega)).mono ?_
        rintro e v33 ⟨rfl, hb1⟩
        replace x_a := x_a.keep hb1
        replace x_c := x_c.keep hb1
        replace x_d := x_d.keep hb1
        replace z_a := z_a.keep hb1
        replace z10 := z10.keep hb1
        replace z11 := z11.keep hb1
        replace hb := bthen hb hb1
        clear hb1
        clear q_a0 f_a0 q_a1 f_a1; obtain ⟨q_a0, f_a0, q_a1, f_a1⟩ := x_a.al
        clear q_c0 f_c0 q_c1 f_c1; obtain ⟨q_c0, f_c0, q_c1, f_c1⟩ := x_c.al
        clear q_d0 f_d0 q_d1 f_d1; obtain ⟨q_d0, f_d0, q_d1, f_d1⟩ := x_d.al
        rw [show sgnI 0 = 0 from rfl]
        go_wp2_with fail
        with_reducible refine (ZSign_any z11.zr (by omega)).mono ?_
        rintro e v34 ⟨rfl, hb1⟩
        replace x_a := x_a.keep hb1
        replace x_c := x_c.keep hb1
        replace x_d := x_d.keep hb1
        replace z_a := z_a.keep hb1
        replace z10 := z10.keep hb1
        replace z11 := z11.keep hb1
        replace hb := bthen hb hb1
        clear hb1
        clear q_a0 f_a0 q_a1 f_a1; obtain ⟨q_a0, f_a0, q_a1, f_a1⟩ := x_a.al
        clear q_c0 f_c0 q_c1 f_c1; obtain ⟨q_c0, f_c0, q_c1, f_c1⟩ := x_c.al
        clear q_d0 f_d0 q_d1 f_d1; obtain ⟨q_d0, f_d0, q_d1, f_d1⟩ := x_d.al
        rw [show sgnI 0 = 0 from rfl]
        go_wp2_with fail
        go_roundw
        case rel => exact ⟨4, by omega, by go_num, hb, x_a, z_a⟩
        case measure => simp [intOf]
      · have hkv : K9 = false := by rw [hsp]; simp; omega
        have HKV := Lib.hid hkv
        clear hkv hsp i1 i2
        obtain ⟨q_a0, f_a0, q_a1, f_a1⟩ := x_a.al
        go_wp2_with fail
        with_reducible refine (Lsum_at z_a 3 3 rfl (by omega) q N (by omega)).mono ?_
        rintro e v31 ⟨P, R, x, ⟨A10, n10, c10, A11, n11, c11, rfl, z10, z11, hb1⟩, hc⟩
        replace x_a := x_a.keep hb1
        replace z_a := z_a.keep hb1
        replace hb := bthen hb hb1
        clear hb1
        clear q_a0 f_a0 q_a1 f_a1; obtain ⟨q_a0, f_a0, q_a1, f_a1⟩ := x_a.al
        have hdk : okB T q N (dK 3) = K9 := HK.out
        rw [hdk, HKV.out] at hc
        rcases hc with ⟨hyes, hP, hR, rfl⟩ | ⟨hno, rfl, rfl, rfl⟩
        · cases hyes
        clear hno
        have y_a := ((x_a.alloc (.cells #[.bool (ngB 0), .slice A10 n10 c10] 24)).alloc (.cells #[.bool (ngB 0), .slice A11 n11 c11] 24)); have yq_a0 := y_a.c0; have yq_a1 := y_a.c1
        go_upto_region 19 with fail
        clear y_a yq_a0 yq_a1
        have l_a_c := x_a.lt
        have e_c : w.heap.size ≤ v31.heap.size := hb.size
        have hb1 := below_alloc2 v31 (.cells #[.bool (ngB 0), .slice A10 n10 c10] 24) (.cells #[.bool (ngB 0), .slice A11 n11 c11] 24)
        have x_c := (Bx.new v31 (ngB 0) A10 n10 c10).alloc (.cells #[.bool (ngB 0), .slice A11 n11 c11] 24)
        have x_d : Bx ((v31.alloc (.cells #[.bool (ngB 0), .slice A10 n10 c10] 24)).alloc (.cells #[.bool (ngB 0), .slice A11 n11 c11] 24)) (v31.heap.size + 1) (ngB 0) A11 n11 c11 := by have := Bx.new (v31.alloc (.cells #[.bool (ngB 0), .slice A10 n10 c10] 24)) (ngB 0) A11 n11 c11; simpa using this
        clear q_a0 f_a0 q_a1 f_a1
        replace x_a := x_a.keep hb1
        replace z_a := z_a.keep hb1
        replace z10 := z10.keep hb1
        replace z11 := z11.keep hb1
        replace hb := bthen hb hb1
        clear hb1
        generalize (v31.alloc (.cells #[.bool (ngB 0), .slice A10 n10 c10] 24)).alloc (.cells #[.bool (ngB 0), .slice A11 n11 c11] 24) = v32 at *
        obtain ⟨q_a0, f_a0, q_a1, f_a1⟩ := x_a.al
        obtain ⟨q_c0, f_c0, q_c1, f_c1⟩ := x_c.al
        obtain ⟨q_d0, f_d0, q_d1, f_d1⟩ := x_d.al
        go_wp2_with fail
        with_reducible refine (ZSign_any z10.zr (by omega)).mono ?_
        rintro e v33 ⟨rfl, hb1⟩
        replace x_a := x_a.keep hb1
        replace x_c := x_c.keep hb1
        replace x_d := x_d.keep hb1
        replace z_a := z_a.keep hb1
        replace z10 := z10.keep hb1
        replace z11 := z11.keep hb1
        replace hb := bthen hb hb1
        clear hb1
        clear q_a0 f_a0 q_a1 f_a1; obtain ⟨q_a0, f_a0, q_a1, f_a1⟩ := x_a.al
        clear q_c0 f_c0 q_c1 f_c1; obtain ⟨q_c0, f_c0, q_c1, f_c1⟩ := x_c.al
        clear q_d0 f_d0 q_d1 f_d1; obtain ⟨q_d0, f_d0, q_d1, f_d1⟩ := x_d.al
        rw [show sgnI 0 = 0 from rfl]
        go_wp2_with fail
        with_reducible refine (ZSign_any z11.zr (by omega)).mono ?_
        rintro e v34 ⟨rfl, hb1⟩
        replace x_a := x_a.keep hb1
        replace x_c := x_c.keep hb1
        replace x_d := x_d.keep hb1
        replace z_a := z_a.keep hb1
        replace z10 := z10.keep hb1
        replace z11 := z11.keep hb1
        replace hb := bthen hb hb1
        clear hb1
        clear q_a0 f_a0 q_a1 f_a1; obtain ⟨q_a0, f_a0, q_a1, f_a1⟩ := x_a.al
        clear q_c0 f_c0 q_c1 f_c1; obtain ⟨q_c0, f_c0, q_c1, f_c1⟩ := x_c.al
        clear q_d0 f_d0 q_d1 f_d1; obtain ⟨q_d0, f_d0, q_d1, f_d1⟩ := x_d.al
        rw [show sgnI 0 = 0 from rfl]
        go_wp2_with fail
        go_roundw
        case rel => exact ⟨4, by omega, by go_num, hb, x_a, z_a⟩
        case measure => simp [intOf]
      · have hkv : K9 = false := by rw [hsp]; simp; omega
        have HKV := Lib.hid hkv
        clear hkv hsp i1 i2
        obtain ⟨q_a0, f_a0, q_a1, f_a1⟩ := x_a.al
        go_wp2_with fail
        with_reducible refine (Lsum_at z_a 3 3 rfl (by omega) q N (by omega)).mono ?_
        rintro e v31 ⟨P, R, x, ⟨A10, n10, c10, A11, n11, c11, rfl, z10, z11, hb1⟩, hc⟩
        replace x_a := x_a.keep hb1
        replace z_a := z_a.keep hb1
        replace hb := bthen hb hb1
        clear hb1
        clear q_a0 f_a0 q_a1 f_a1; obtain ⟨q_a0, f_a0, q_a1, f_a1⟩ := x_a.al
        have hdk : okB T q N (dK 3) = K9 := HK.out
        rw [hdk, HKV.out] at hc
        rcases hc with ⟨hyes, hP, hR, rfl⟩ | ⟨hno, rfl, rfl, rfl⟩
        · cases hyes
        clear hno
        have y_a := ((x_a.alloc (.cells #[.bool (ngB 0), .slice A10 n10 c10] 24)).alloc (.cells #[.bool (ngB 0), .slice A11 n11 c11] 24)); have yq_a0 := y_a.c0; have yq_a1 := y_a.c1
        go_upto_region 19 with fail
        clear y_a yq_a0 yq_a1
        have l_a_c := x_a.lt
        have e_c : w.heap.size ≤ v31.heap.size := hb.size
        have hb1 := below_alloc2 v31 (.cells #[.bool (ngB 0), .slice A10 n10 c10] 24) (.cells #[.bool (ngB 0), .slice A11 n11 c11] 24)
        have x_c := (Bx.new v31 (ngB 0) A10 n10 c10).alloc (.cells #[.bool (ngB 0), .slice A11 n11 c11] 24)
        have x_d : Bx ((v31.alloc (.cells #[.bool (ngB 0), .slice A10 n10 c10] 24)).alloc (.cells #[.bool (ngB 0), .slice A11 n11 c11] 24)) (v31.heap.size + 1) (ngB 0) A11 n11 c11 := by have := Bx.new (v31.alloc (.cells #[.bool (ngB 0), .slice A10 n10 c10] 24)) (ngB 0) A11 n11 c11; simpa using this
        clear q_a0 f_a0 q_a1 f_a1
        replace x_a := x_a.keep hb1
        replace z_a := z_a.keep hb1
        replace z10 := z10.keep hb1
        replace z11 := z11.keep hb1
        replace hb := bthen hb hb1
        clear hb1
        generalize (v31.alloc (.cells #[.bool (ngB 0), .slice A10 n10 c10] 24)).alloc (.cells #[.bool (ngB 0), .slice A11 n11 c11] 24) = v32 at *
        obtain ⟨q_a0, f_a0, q_a1, f_a1⟩ := x_a.al
        obtain ⟨q_c0, f_c0, q_c1, f_c1⟩ := x_c.al
        obtain ⟨q_d0, f_d0, q_d1, f_d1⟩ := x_d.al
        go_wp2_with fail
        with_reducible refine (ZSign_any z10.zr (by omega)).mono ?_
        rintro e v33 ⟨rfl, hb1⟩
        replace x_a := x_a.keep hb1
        replace x_c := x_c.keep hb1
        replace x_d := x_d.keep hb1
        replace z_a := z_a.keep hb1
        replace z10 := z10.keep hb1
        replace z11 := z11.keep hb1
        replace hb := bthen hb hb1
        clear hb1
        clear q_a0 f_a0 q_a1 f_a1; obtain ⟨q_a0, f_a0, q_a1, f_a1⟩ := x_a.al
        clear q_c0 f_c0 q_c1 f_c1; obtain ⟨q_c0, f_c0, q_c1, f_c1⟩ := x_c.al
        clear q_d0 f_d0 q_d1 f_d1; obtain ⟨q_d0, f_d0, q_d1, f_d1⟩ := x_d.al
        rw [show sgnI 0 = 0 from rfl]
        go_wp2_with fail
        with_reducible refine (ZSign_any z11.zr (by omega)).mono ?_
        rintro e v34 ⟨rfl, hb1⟩
        replace x_a := x_a.keep hb1
        replace x_c := x_c.keep hb1
        replace x_d := x_d.keep hb1
        replace z_a := z_a.keep hb1
        replace z10 := z10.keep hb1
        replace z11 := z11.keep hb1
        replace hb := bthen hb hb1
        clear hb1
        clear q_a0 f_a0 q_a1 f_a1; obtain ⟨q_a0, f_a0, q_a1, f_a1⟩ := x_a.al
        clear q_c0 f_c0 q_c1 f_c1; obtain ⟨q_c0, f_c0, q_c1, f_c1⟩ := x_c.al
        clear q_d0 f_d0 q_d1 f_d1; obtain ⟨q_d0, f_d0, q_d1, f_d1⟩ := x_d.al
        rw [show sgnI 0 = 0 from rfl]
        go_wp2_with fail
        go_roundw
        case rel => exact ⟨4, by omega, by go_num, hb, x_a, z_a⟩
        case measure => simp [intOf]
      · have hkv : K9 = false := by rw [hsp]; simp; omega
        have HKV := Lib.hid hkv
        clear hkv hsp i1 i2
        obtain ⟨q_a0, f_a0, q_a1, f_a1⟩ := x_a.al
        go_wp2_with fail
        with_reducible refine (Lsum_at z_a 3 3 rfl (by omega) q N (by omega)).mono ?_
        rintro e v31 ⟨P, R, x, ⟨A10, n10, c10, A11, n11, c11, rfl, z10, z11, hb1⟩, hc⟩
        replace x_a := x_a.keep hb1
        replace z_a := z_a.keep hb1
        replace hb := bthen hb hb1
        clear hb1
        clear q_a0 f_a0 q_a1 f_a1; obtain ⟨q_a0, f_a0, q_a1, f_a1⟩ := x_a.al
        have hdk : okB T q N (dK 3) = K9 := HK.out
        rw [hdk, HKV.out] at hc
        rcases hc with ⟨hyes, hP, hR, rfl⟩ | ⟨hno, rfl, rfl, rfl⟩
        · cases hyes
        clear hno
        have y_a := ((x_a.alloc (.cells #[.bool (ngB 0), .slice A10 n10 c10] 24)).alloc (.cells #[.bool (ngB 0), .slice A11 n11 c11] 24)); have yq_a0 := y_a.c0; have yq_a1 := y_a.c1
        go_upto_region 19 with fail
        clear y_a yq_a0 yq_a1
        have l_a_c := x_a.lt
        have e_c : w.heap.size ≤ v31.heap.size := hb.size
        have hb1 := below_alloc2 v31 (.cells #[.bool (ngB 0), .slice A10 n10 c10] 24) (.cells #[.bool (ngB 0), .slice A11 n11 c11] 24)
        have x_c := (Bx.new v31 (ngB 0) A10 n10 c10).alloc (.cells #[.bool (ngB 0), .slice A11 n11 c11] 24)
        have x_d : Bx ((v31.alloc (.cells #[.bool (ngB 0), .slice A10 n10 c10] 24)).alloc (.cells #[.bool (ngB 0), .slice A11 n11 c11] 24)) (v31.heap.size + 1) (ngB 0) A11 n11 c11 := by have := Bx.new (v31.alloc (.cells #[.bool (ngB 0), .slice A10 n10 c10] 24)) (ngB 0) A11 n11 c11; simpa using this
        clear q_a0 f_a0 q_a1 f_a1
        replace x_a := x_a.keep hb1
        replace z_a := z_a.keep hb1
        replace z10 := z10.keep hb1
        replace z11 := z11.keep hb1
        replace hb := bthen hb hb1
        clear hb1
        generalize (v31.alloc (.cells #[.bool (ngB 0), .slice A10 n10 c10] 24)).alloc (.cells #[.bool (ngB 0), .slice A11 n11 c11] 24) = v32 at *
        obtain ⟨q_a0, f_a0, q_a1, f_a1⟩ := x_a.al
        obtain ⟨q_c0, f_c0, q_c1, f_c1⟩ := x_c.al
        obtain ⟨q_d0, f_d0, q_d1, f_d1⟩ := x_d.al
        go_wp2_with fail
        with_reducible refine (ZSign_any z10.zr (by omega)).mono ?_
        rintro e v33 ⟨rfl, hb1⟩
        replace x_a := x_a.keep hb1
        replace x_c := x_c.keep hb1
        replace x_d := x_d.keep hb1
        replace z_a := z_a.keep hb1
        replace z10 := z10.keep hb1
        replace z11 := z11.keep hb1
        replace hb := bthen hb hb1
        clear hb1
        clear q_a0 f_a0 q_a1 f_a1; obtain ⟨q_a0, f_a0, q_a1, f_a1⟩ := x_a.al
        clear q_c0 f_c0 q_c1 f_c1; obtain ⟨q_c0, f_c0, q_c1, f_c1⟩ := x_c.al
        clear q_d0 f_d0 q_d1 f_d1; obtain ⟨q_d0, f_d0, q_d1, f_d1⟩ := x_d.al
        rw [show sgnI 0 = 0 from rfl]
        go_wp2_with fail
        with_reducible refine (ZSign_any z11.zr (by omega)).mono ?_
        rintro e v34 ⟨rfl, hb1⟩
        replace x_a := x_a.keep hb1
        replace x_c := x_c.keep hb1
        replace x_d := x_d.keep hb1
        replace z_a := z_a.keep hb1
        replace z10 := z10.keep hb1
        replace z11 := z11.keep hb1
        replace hb := bthen hb hb1
        clear hb1
        clear q_a0 f_a0 q_a1 f_a1; obtain ⟨q_a0, f_a0, q_a1, f_a1⟩ := x_a.al
        clear q_c0 f_c0 q_c1 f_c1; obtain ⟨q_c0, f_c0, q_c1, f_c1⟩ := x_c.al
        clear q_d0 f_d0 q_d1 f_d1; obtain ⟨q_d0, f_d0, q_d1, f_d1⟩ := x_d.al
        rw [show sgnI 0 = 0 from rfl]
        go_wp2_with fail
        go_roundw
        case rel => exact ⟨4, by omega, by go_num, hb, x_a, z_a⟩
        case measure => simp [intOf]
      · have hkv : K9 = false := by rw [hsp]; simp; omega
        have HKV := Lib.hid hkv
        clear hkv hsp i1 i2
        obtain ⟨q_a0, f_a0, q_a1, f_a1⟩ := x_a.al
        go_wp2_with fail
        with_reducible refine (ZSign_any z_a (by omega)).mono ?_
        rintro e v31 ⟨rfl, hb1⟩
        replace x_a := x_a.keep hb1
        replace z_a := z_a.keep hb1
        replace hb := bthen hb hb1
        clear hb1
        clear q_a0 f_a0 q_a1 f_a1; obtain ⟨q_a0, f_a0, q_a1, f_a1⟩ := x_a.al
        rw [HS1.out]
        go_wp2_with fail
        with_reducible refine (Lsum_at z_a 3 3 rfl (by omega) q N (by omega)).mono ?_
        rintro e v32 ⟨P, R, x, ⟨A10, n10, c10, A11, n11, c11, rfl, z10, z11, hb1⟩, hc⟩
        replace x_a := x_a.keep hb1
        replace z_a := z_a.keep hb1
        replace hb := bthen hb hb1
        clear hb1
        clear q_a0 f_a0 q_a1 f_a1; obtain ⟨q_a0, f_a0, q_a1, f_a1⟩ := x_a.al
        have hdk : okB T q N (dK 3) = K9 := HK.out
        rw [hdk, HKV.out] at hc
        rcases hc with ⟨hyes, hP, hR, rfl⟩ | ⟨hno, rfl, rfl, rfl⟩
        · cases hyes
        clear hno
        have y_a := ((x_a.alloc (.cells #[.bool (ngB 0), .slice A10 n10 c10] 24)).alloc (.cells #[.bool (ngB 0), .slice A11 n11 c11] 24)); have yq_a0 := y_a.c0; have yq_a1 := y_a.c1
        go_upto_region 19 with fail
        clear y_a yq_a0 yq_a1
        have l_a_c := x_a.lt
        have e_c : w.heap.size ≤ v32.heap.size := hb.size
        have hb1 := below_alloc2 v32 (.cells #[.bool (ngB 0), .slice A10 n10 c10] 24) (.cells #[.bool (ngB 0), .slice A11 n11 c11] 24)
        have x_c := (Bx.new v32 (ngB 0) A10 n10 c10).alloc (.cells #[.bool (ngB 0), .slice A11 n11 c11] 24)
        have x_d : Bx ((v32.alloc (.cells #[.bool (ngB 0), .slice A10 n10 c10] 24)).alloc (.cells #[.bool (ngB 0), .slice A11 n11 c11] 24)) (v32.heap.size + 1) (ngB 0) A11 n11 c11 := by have := Bx.new (v32.alloc (.cells #[.bool (ngB 0), .slice A10 n10 c10] 24)) (ngB 0) A11 n11 c11; simpa using this
        clear q_a0 f_a0 q_a1 f_a1
        replace x_a := x_a.keep hb1
        replace z_a := z_a.keep hb1
        replace z10 := z10.keep hb1
        replace z11 := z11.keep hb1
        replace hb := bthen hb hb1
        clear hb1
        generalize (v32.alloc (.cells #[.bool (ngB 0), .slice A10 n10 c10] 24)).alloc (.cells #[.bool (ngB 0), .slice A11 n11 c11] 24) = v33 at *
        obtain ⟨q_a0, f_a0, q_a1, f_a1⟩ := x_a.al
        obtain ⟨q_c0, f_c0, q_c1, f_c1⟩ := x_c.al
        obtain ⟨q_d0, f_d0, q_d1, f_d1⟩ := x_d.al
        go_wp2_with fail
        with_reducible refine (ZSign_any z10.zr (by omega)).mono ?_
        rintro e v34 ⟨rfl, hb1⟩
        replace x_a := x_a.keep hb1
        replace x_c := x_c.keep hb1
        replace x_d := x_d.keep hb1
        replace z_a := z_a.keep hb1
        replace z10 := z10.keep hb1
        replace z11 := z11.keep hb1
        replace hb := bthen hb hb1
        clear hb1
        clear q_a0 f_a0 q_a1 f_a1; obtain ⟨q_a0, f_a0, q_a1, f_a1⟩ := x_a.al
        clear q_c0 f_c0 q_c1 f_c1; obtain ⟨q_c0, f_c0, q_c1, f_c1⟩ := x_c.al
        clear q_d0 f_d0 q_d1 f_d1; obtain ⟨q_d0, f_d0, q_d1, f_d1⟩ := x_d.al
        rw [show sgnI 0 = 0 from rfl]
        go_wp2_with fail
        with_reducible refine (ZSign_any z11.zr (by omega)).mono ?_
        rintro e v35 ⟨rfl, hb1⟩
        replace x_a := x_a.keep hb1
        replace x_c := x_c.keep hb1
        replace x_d := x_d.keep hb1
        replace z_a := z_a.keep hb1
        replace z10 := z10.keep hb1
        replace z11 := z11.keep hb1
        replace hb := bthen hb hb1
        clear hb1
        clear q_a0 f_a0 q_a1 f_a1; obtain ⟨q_a0, f_a0, q_a1, f_a1⟩ := x_a.al
        clear q_c0 f_c0 q_c1 f_c1; obtain ⟨q_c0, f_c0, q_c1, f_c1⟩ := x_c.al
        clear q_d0 f_d0 q_d1 f_d1; obtain ⟨q_d0, f_d0, q_d1, f_d1⟩ := x_d.al
        rw [show sgnI 0 = 0 from rfl]
        go_wp2_with fail
        go_roundw
        case rel => exact ⟨4, by omega, by go_num, hb, x_a, z_a⟩
        case measure => simp [intOf]
      · have hkv : K9 = false := by rw [hsp]; simp; omega
        have HKV := Lib.hid hkv
        clear hkv hsp i1 i2
        obtain ⟨q_a0, f_a0, q_a1, f_a1⟩ := x_a.al
        go_wp2_with fail
        with_reducible refine (ZSign_any z_a (by omega)).mono ?_
        rintro e v31 ⟨rfl, hb1⟩
        replace x_a := x_a.keep hb1
        replace z_a := z_a.keep hb1
        replace hb := bthen hb hb1
        clear hb1
        clear q_a0 f_a0 q_a1 f_a1; obtain ⟨q_a0, f_a0, q_a1, f_a1⟩ := x_a.al
        rw [HS1.out]
        go_wp2_with fail
        with_reducible refine (ZShl_any z_a 1 150 (by omega) (by omega)).mono ?_
        rintro e v32 ⟨A20, n20, c20, rfl, z20, hb1⟩
        replace x_a := x_a.keep hb1
        replace z_a := z_a.keep hb1
        replace hb := bthen hb hb1
        clear hb1
        clear q_a0 f_a0 q_a1 f_a1; obtain ⟨q_a0, f_a0, q_a1, f_a1⟩ := x_a.al
        go_wp2_with fail
        with_reducible refine (ZOf_any 4 (by omega) (by omega)).mono ?_
        rintro e v33 ⟨A21, n21, c21, rfl, z21, hb1⟩
        replace x_a := x_a.keep hb1
        replace z_a := z_a.keep hb1
        replace z20 := z20.keep hb1
        replace hb := bthen hb hb1
        clear hb1
        clear q_a0 f_a0 q_a1 f_a1; obtain ⟨q_a0, f_a0, q_a1, f_a1⟩ := x_a.al
        go_wp2_with fail
        with_reducible refine (ZShl_any z21.zr q 130 (by omega) (by omega)).mono ?_
        rintro e v34 ⟨A22, n22, c22, rfl, z22, hb1⟩
        replace x_a := x_a.keep hb1
        replace z_a := z_a.keep hb1
        replace z20 := z20.keep hb1
        replace z21 := z21.keep hb1
        replace hb := bthen hb hb1
        clear hb1
        clear q_a0 f_a0 q_a1 f_a1; obtain ⟨q_a0, f_a0, q_a1, f_a1⟩ := x_a.al
        rw [HD2.out] at z22 ⊢
        go_wp2_with fail
        with_reducible refine (ZCmp_any z20.zr z22.zr (by omega) (by omega)).mono ?_
        rintro e v35 ⟨rfl, hb1⟩
        replace x_a := x_a.keep hb1
        replace z_a := z_a.keep hb1
        replace z20 := z20.keep hb1
        replace z21 := z21.keep hb1
        replace z22 := z22.keep hb1
        replace hb := bthen hb hb1
        clear hb1
        clear q_a0 f_a0 q_a1 f_a1; obtain ⟨q_a0, f_a0, q_a1, f_a1⟩ := x_a.al
        rw [HS2.out]
        clear z20 z21 z22
        go_wp2_with fail
        with_reducible refine (Lsum_at z_a 3 3 rfl (by omega) q N (by omega)).mono ?_
        rintro e v36 ⟨P, R, x, ⟨A10, n10, c10, A11, n11, c11, rfl, z10, z11, hb1⟩, hc⟩
        replace x_a := x_a.keep hb1
        replace z_a := z_a.keep hb1
        replace hb := bthen hb hb1
        clear hb1
        clear q_a0 f_a0 q_a1 f_a1; obtain ⟨q_a0, f_a0, q_a1, f_a1⟩ := x_a.al
        have hdk : okB T q N (dK 3) = K9 := HK.out
        rw [hdk, HKV.out] at hc
        rcases hc with ⟨hyes, hP, hR, rfl⟩ | ⟨hno, rfl, rfl, rfl⟩
        · cases hyes
        clear hno
        have y_a := ((x_a.alloc (.cells #[.bool (ngB 0), .slice A10 n10 c10] 24)).alloc (.cells #[.bool (ngB 0), .slice A11 n11 c11] 24)); have yq_a0 := y_a.c0; have yq_a1 := y_a.c1
        go_upto_region 19 with fail
        clear y_a yq_a0 yq_a1
        have l_a_c := x_a.lt
        have e_c : w.heap.size ≤ v36.heap.size := hb.size
        have hb1 := below_alloc2 v36 (.cells #[.bool (ngB 0), .slice A10 n10 c10] 24) (.cells #[.bool (ngB 0), .slice A11 n11 c11] 24)
        have x_c := (Bx.new v36 (ngB 0) A10 n10 c10).alloc (.cells #[.bool (ngB 0), .slice A11 n11 c11] 24)
        have x_d : Bx ((v36.alloc (.cells #[.bool (ngB 0), .slice A10 n10 c10] 24)).alloc (.cells #[.bool (ngB 0), .slice A11 n11 c11] 24)) (v36.heap.size + 1) (ngB 0) A11 n11 c11 := by have := Bx.new (v36.alloc (.cells #[.bool (ngB 0), .slice A10 n10 c10] 24)) (ngB 0) A11 n11 c11; simpa using this
        clear q_a0 f_a0 q_a1 f_a1
        replace x_a := x_a.keep hb1
        replace z_a := z_a.keep hb1
        replace z10 := z10.keep hb1
        replace z11 := z11.keep hb1
        replace hb := bthen hb hb1
        clear hb1
        generalize (v36.alloc (.cells #[.bool (ngB 0), .slice A10 n10 c10] 24)).alloc (.cells #[.bool (ngB 0), .slice A11 n11 c11] 24) = v37 at *
        obtain ⟨q_a0, f_a0, q_a1, f_a1⟩ := x_a.al
        obtain ⟨q_c0, f_c0, q_c1, f_c1⟩ := x_c.al
        obtain ⟨q_d0, f_d0, q_d1, f_d1⟩ := x_d.al
        go_wp2_with fail
        with_reducible refine (ZSign_any z10.zr (by omega)).mono ?_
        rintro e v38 ⟨rfl, hb1⟩
        replace x_a := x_a.keep hb1
        replace x_c := x_c.keep hb1
        replace x_d := x_d.keep hb1
        replace z_a := z_a.keep hb1
        replace z10 := z10.keep hb1
        replace z11 := z11.keep hb1
        replace hb := bthen hb hb1
        clear hb1
        clear q_a0 f_a0 q_a1 f_a1; obtain ⟨q_a0, f_a0, q_a1, f_a1⟩ := x_a.al
        clear q_c0 f_c0 q_c1 f_c1; obtain ⟨q_c0, f_c0, q_c1, f_c1⟩ := x_c.al
        clear q_d0 f_d0 q_d1 f_d1; obtain ⟨q_d0, f_d0, q_d1, f_d1⟩ := x_d.al
        rw [show sgnI 0 = 0 from rfl]
        go_wp2_with fail
        with_reducible refine (ZSign_any z11.zr (by omega)).mono ?_
        rintro e v39 ⟨rfl, hb1⟩
        replace x_a := x_a.keep hb1
        replace x_c := x_c.keep hb1
        replace x_d := x_d.keep hb1
        replace z_a := z_a.keep hb1
        replace z10 := z10.keep hb1
        replace z11 := z11.keep hb1
        replace hb := bthen hb hb1
        clear hb1
        clear q_a0 f_a0 q_a1 f_a1; obtain ⟨q_a0, f_a0, q_a1, f_a1⟩ := x_a.al
        clear q_c0 f_c0 q_c1 f_c1; obtain ⟨q_c0, f_c0, q_c1, f_c1⟩ := x_c.al
        clear q_d0 f_d0 q_d1 f_d1; obtain ⟨q_d0, f_d0, q_d1, f_d1⟩ := x_d.al
        rw [show sgnI 0 = 0 from rfl]
        go_wp2_with fail
        go_roundw
        case rel => exact ⟨4, by omega, by go_num, hb, x_a, z_a⟩
        case measure => simp [intOf]
      · have hkv : K9 = true := by rw [hsp]; simp; omega
        have HKV := Lib.hid hkv
        clear hkv hsp i1 i2
        obtain ⟨q_a0, f_a0, q_a1, f_a1⟩ := x_a.al
        go_wp2_with fail
        with_reducible refine (ZSign_any z_a (by omega)).mono ?_
        rintro e v31 ⟨rfl, hb1⟩
        replace x_a := x_a.keep hb1
        replace z_a := z_a.keep hb1
        replace hb := bthen hb hb1
        clear hb1
        clear q_a0 f_a0 q_a1 f_a1; obtain ⟨q_a0, f_a0, q_a1, f_a1⟩ := x_a.al
        rw [HS1.out]
        go_wp2_with fail
        with_reducible refine (ZShl_any z_a 1 150 (by omega) (by omega)).mono ?_
        rintro e v32 ⟨A20, n20, c20, rfl, z20, hb1⟩
        replace x_a := x_a.keep hb1
        replace z_a := z_a.keep hb1
        replace hb := bthen hb hb1
        clear hb1
        clear q_a0 f_a0 q_a1 f_a1; obtain ⟨q_a0, f_a0, q_a1, f_a1⟩ := x_a.al
        go_wp2_with fail
        with_reducible refine (ZOf_any 4 (by omega) (by omega)).mono ?_
        rintro e v33 ⟨A21, n21, c21, rfl, z21, hb1⟩
        replace x_a := x_a.keep hb1
        replace z_a := z_a.keep hb1
        replace z20 := z20.keep hb1
        replace hb := bthen hb hb1
        clear hb1
        clear q_a0 f_a0 q_a1 f_a1; obtain ⟨q_a0, f_a0, q_a1, f_a1⟩ := x_a.al
        go_wp2_with fail
        with_reducible refine (ZShl_any z21.zr q 130 (by omega) (by omega)).mono ?_
        rintro e v34 ⟨A22, n22, c22, rfl, z22, hb1⟩
        replace x_a := x_a.keep hb1
        replace z_a := z_a.keep hb1
        replace z20 := z20.keep hb1
        replace z21 := z21.keep hb1
        replace hb := bthen hb hb1
        clear hb1
        clear q_a0 f_a0 q_a1 f_a1; obtain ⟨q_a0, f_a0, q_a1, f_a1⟩ := x_a.al
        rw [HD2.out] at z22 ⊢
        go_wp2_with fail
        with_reducible refine (ZCmp_any z20.zr z22.zr (by omega) (by omega)).mono ?_
        rintro e v35 ⟨rfl, hb1⟩
        replace x_a := x_a.keep hb1
        replace z_a := z_a.keep hb1
        replace z20 := z20.keep hb1
        replace z21 := z21.keep hb1
        replace z22 := z22.keep hb1
        replace hb := bthen hb hb1
        clear hb1
        clear q_a0 f_a0 q_a1 f_a1; obtain ⟨q_a0, f_a0, q_a1, f_a1⟩ := x_a.al
        rw [HS2.out]
        clear z20 z21 z22
        go_wp2_with fail
        with_reducible refine (Lsum_at z_a 3 3 rfl (by omega) q N (by omega)).mono ?_
        rintro e v36 ⟨P, R, x, ⟨A10, n10, c10, A11, n11, c11, rfl, z10, z11, hb1⟩, hc⟩
        replace x_a := x_a.keep hb1
        replace z_a := z_a.keep hb1
        replace hb := bthen hb hb1
        clear hb1
        clear q_a0 f_a0 q_a1 f_a1; obtain ⟨q_a0, f_a0, q_a1, f_a1⟩ := x_a.al
        have hdk : okB T q N (dK 3) = K9 := HK.out
        rw [hdk, HKV.out] at hc
        rcases hc with ⟨hyes, hP, hR, rfl⟩ | ⟨hno, rfl, rfl, rfl⟩
        rotate_left
        · cases hno
        clear hP hR hyes
        have y_a := ((x_a.alloc (.cells #[.bool (ngB P), .slice A10 n10 c10] 24)).alloc (.cells #[.bool (ngB R), .slice A11 n11 c11] 24)); have yq_a0 := y_a.c0; have yq_a1 := y_a.c1
        go_upto_region 19 with fail
        clear y_a yq_a0 yq_a1
        have l_a_c := x_a.lt
        have e_c : w.heap.size ≤ v36.heap.size := hb.size
        have hb1 := below_alloc2 v36 (.cells #[.bool (ngB P), .slice A10 n10 c10] 24) (.cells #[.bool (ngB R), .slice A11 n11 c11] 24)
        have x_c := (Bx.new v36 (ngB P) A10 n10 c10).alloc (.cells #[.bool (ngB R), .slice A11 n11 c11] 24)
        have x_d : Bx ((v36.alloc (.cells #[.bool (ngB P), .slice A10 n10 c10] 24)).alloc (.cells #[.bool (ngB R), .slice A11 n11 c11] 24)) (v36.heap.size + 1) (ngB R) A11 n11 c11 := by have := Bx.new (v36.alloc (.cells #[.bool (ngB P), .slice A10 n10 c10] 24)) (ngB R) A11 n11 c11; simpa using this
        clear q_a0 f_a0 q_a1 f_a1
        replace x_a := x_a.keep hb1
        replace z_a := z_a.keep hb1
        replace z10 := z10.keep hb1
        replace z11 := z11.keep hb1
        replace hb := bthen hb hb1
        clear hb1
        generalize (v36.alloc (.cells #[.bool (ngB P), .slice A10 n10 c10] 24)).alloc (.cells #[.bool (ngB R), .slice A11 n11 c11] 24) = v37 at *
        obtain ⟨q_a0, f_a0, q_a1, f_a1⟩ := x_a.al
        obtain ⟨q_c0, f_c0, q_c1, f_c1⟩ := x_c.al
        obtain ⟨q_d0, f_d0, q_d1, f_d1⟩ := x_d.al
        go_wp2_with fail
        go_roundw
        case rel => exact ⟨4, by omega, by go_num, hb, x_a, z_a⟩
        case measure => simp [intOf]
    · have hsp := okB_split T q N 4
      obtain ⟨K9, hK9⟩ : ∃ e, okB T q N 4 = e := ⟨_, rfl⟩
      obtain ⟨S1, hS1⟩ : ∃ e, sgnI T = e := ⟨_, rfl⟩
      obtain ⟨D2, hD2⟩ : ∃ e, (4 : Int) * 2 ^ sc q = e := ⟨_, rfl⟩
      obtain ⟨S2, hS2⟩ : ∃ e, sgnI (T * 2 ^ sc 1 - D2) = e := ⟨_, rfl⟩
      have i1 : 0 ≤ S1 ↔ 0 ≤ T := by rw [← hS1]; exact sgn_ge_iff
      have i2 : S2 ≤ 0 ↔ 2 * T ≤ D2 := by rw [← hS2, sgn_le_iff, show T * 2 ^ sc 1 = 2 * T by rw [show sc 1 = 1 from rfl]; omega]; omega
      rw [hK9, hD2] at hsp
      have HD2 := Lib.hid hD2; clear hD2
      have HK := Lib.hid hK9; have HS1 := Lib.hid hS1; have HS2 := Lib.hid hS2; clear hK9 hS1 hS2
      rcases (show ¬ 0 ≤ q ∨ (0 ≤ q ∧ ¬ q ≤ 1200) ∨ (0 ≤ q ∧ q ≤ 1200 ∧ ¬ 1 ≤ N) ∨ (0 ≤ q ∧ q ≤ 1200 ∧ 1 ≤ N ∧ ¬ N ≤ 400) ∨ (0 ≤ q ∧ q ≤ 1200 ∧ 1 ≤ N ∧ N ≤ 400 ∧ ¬ 0 ≤ S1) ∨ (0 ≤ q ∧ q ≤ 1200 ∧ 1 ≤ N ∧ N ≤ 400 ∧ 0 ≤ S1 ∧ ¬ S2 ≤ 0) ∨ (0 ≤ q ∧ q ≤ 1200 ∧ 1 ≤ N ∧ N ≤ 400 ∧ 0 ≤ S1 ∧ S2 ≤ 0) by omega) with o1 | ⟨o1, o2⟩ | ⟨o1, o2, o3⟩ | ⟨o1, o2, o3, o4⟩ | ⟨o1, o2, o3, o4, o5⟩ | ⟨o1, o2, o3, o4, o5, o6⟩ | ⟨o1, o2, o3, o4, o5, o6⟩
      · have hkv : K9 = false := by rw [hsp]; simp; omega
        have HKV := Lib.hid hkv
        clear hkv hsp i1 i2
        obtain ⟨q_a0, f_a0, q_a1, f_a1⟩ := x_a.al
        go_wp2_with fail
        with_reducible refine (Lsum_at z_a 4 4 rfl (by omega) q N (by omega)).mono ?_
        rintro e v31 ⟨P, R, x, ⟨A10, n10, c10, A11, n11, c11, rfl, z10, z11, hb1⟩, hc⟩
        replace x_a := x_a.keep hb1
        replace z_a := z_a.keep hb1
        replace hb := bthen hb hb1
        clear hb1
        clear q_a0 f_a0 q_a1 f_a1; obtain ⟨q_a0, f_a0, q_a1, f_a1⟩ := x_a.al
        have hdk : okB T q N (dK 4) = K9 := HK.out
        rw [hdk, HKV.out] at hc
        rcases hc with ⟨hyes, hP, hR, rfl⟩ | ⟨hno, rfl, rfl, rfl⟩
        · cases hyes
        clear hno
        have y_a := ((x_a.alloc (.cells #[.bool (ngB 0), .slice A10 n10 c10] 24)).alloc (.cells #[.bool (ngB 0), .slice A11 n11 c11] 24)); have yq_a0 := y_a.c0; have yq_a1 := y_a.c1
        go_upto_region 19 with fail
        clear y_a yq_a0 yq_a1
        have l_a_c := x_a.lt
        have e_c : w.heap.size ≤ v31.heap.size := hb.size
        have hb1 := below_alloc2 v31 (.cells #[.bool (ngB 0), .slice A10 n10 c10] 24) (.cells #[.bool (ngB 0), .slice A11 n11 c11] 24)
        have x_c := (Bx.new v31 (ngB 0) A10 n10 c10).alloc (.cells #[.bool (ngB 0), .slice A11 n11 c11] 24)
        have x_d : Bx ((v31.alloc (.cells #[.bool (ngB 0), .slice A10 n10 c10] 24)).alloc (.cells #[.bool (ngB 0), .slice A11 n11 c11] 24)) (v31.heap.size + 1) (ngB 0) A11 n11 c11 := by have := Bx.new (v31.alloc (.cells #[.bool (ngB 0), .slice A10 n10 c10] 24)) (ngB 0) A11 n11 c11; simpa using this
        clear q_a0 f_a0 q_a1 f_a1
        replace x_a := x_a.keep hb1
        replace z_a := z_a.keep hb1
        replace z10 := z10.keep hb1
        replace z11 := z11.keep hb1
        replace hb := bthen hb hb1
        clear hb1
        generalize (v31.alloc (.cells #[.bool (ngB 0), .slice A10 n10 c10] 24)).alloc (.cells #[.bool (ngB 0), .slice A11 n11 c11] 24) = v32 at *
        obtain ⟨q_a0, f_a0, q_a1, f_a1⟩ := x_a.al
        obtain ⟨q_c0, f_c0, q_c1, f_c1⟩ := x_c.al
        obtain ⟨q_d0, f_d0, q_d1, f_d1⟩ := x_d.al
        go_wp2_with fail
        with_reducible refine (ZSign_any z10.zr (by omega)).mono ?_
        rintro e v33 ⟨rfl, hb1⟩
        replace x_a := x_a.keep hb1
        replace x_c := x_c.keep hb1
        replace x_d := x_d.keep hb1
        replace z_a := z_a.keep hb1
        replace z10 := z10.keep hb1
        replace z11 := z11.keep hb1
        replace hb := bthen hb hb1
        clear hb1
        clear q_a0 f_a0 q_a1 f_a1; obtain ⟨q_a0, f_a0, q_a1, f_a1⟩ := x_a.al
        clear q_c0 f_c0 q_c1 f_c1; obtain ⟨q_c0, f_c0, q_c1, f_c1⟩ := x_c.al
        clear q_d0 f_d0 q_d1 f_d1; obtain ⟨q_d0, f_d0, q_d1, f_d1⟩ := x_d.al
        rw [show sgnI 0 = 0 from rfl]
        go_wp2_with fail
        with_reducible refine (ZSign_any z11.zr (by omega)).mono ?_
        rintro e v34 ⟨rfl, hb1⟩
        replace x_a := x_a.keep hb1
        replace x_c := x_c.keep hb1
        replace x_d := x_d.keep hb1
        replace z_a := z_a.keep hb1
        replace z10 := z10.keep hb1
        replace z11 := z11.keep hb1
        replace hb := bthen hb hb1
        clear hb1
        clear q_a0 f_a0 q_a1 f_a1; obtain ⟨q_a0, f_a0, q_a1, f_a1⟩ := x_a.al
        clear q_c0 f_c0 q_c1 f_c1; obtain ⟨q_c0, f_c0, q_c1, f_c1⟩ := x_c.al
        clear q_d0 f_d0 q_d1 f_d1; obtain ⟨q_d0, f_d0, q_d1, f_d1⟩ := x_d.al
        rw [show sgnI 0 = 0 from rfl]
        go_wp2_with fail
        go_roundw
        case rel => exact ⟨5, by omega, by go_num, hb, x_a, z_a⟩
        case measure => simp [intOf]
      · have hkv : K9 = false := by rw [hsp]; simp; omega
        have HKV := Lib.hid hkv
        clear hkv hsp i1 i2
        obtain ⟨q_a0, f_a0, q_a1, f_a1⟩ := x_a.al
        go_wp2_with fail
        with_reducible refine (Lsum_at z_a 4 4 rfl (by omega) q N (by omega)).mono ?_
        rintro e v31 ⟨P, R, x, ⟨A10, n10, c10, A11, n11, c11, rfl, z10, z11, hb1⟩, hc⟩
        replace x_a := x_a.keep hb1
        replace z_a := z_a.keep hb1
        replace hb := bthen hb hb1
        clear hb1
        clear q_a0 f_a0 q_a1 f_a1; obtain ⟨q_a0, f_a0, q_a1, f_a1⟩ := x_a.al
        have hdk : okB T q N (dK 4) = K9 := HK.out
        rw [hdk, HKV.out] at hc
        rcases hc with ⟨hyes, hP, hR, rfl⟩ | ⟨hno, rfl, rfl, rfl⟩
        · cases hyes
        clear hno
        have y_a := ((x_a.alloc (.cells #[.bool (ngB 0), .slice A10 n10 c10] 24)).alloc (.cells #[.bool (ngB 0), .slice A11 n11 c11] 24)); have yq_a0 := y_a.c0; have yq_a1 := y_a.c1
        go_upto_region 19 with fail
        clear y_a yq_a0 yq_a1
        have l_a_c := x_a.lt
        have e_c : w.heap.size ≤ v31.heap.size := hb.size
        have hb1 := below_alloc2 v31 (.cells #[.bool (ngB 0), .slice A10 n10 c10] 24) (.cells #[.bool (ngB 0), .slice A11 n11 c11] 24)
        have x_c := (Bx.new v31 (ngB 0) A10 n10 c10).alloc (.cells #[.bool (ngB 0), .slice A11 n11 c11] 24)
        have x_d : Bx ((v31.alloc (.cells #[.bool (ngB 0), .slice A10 n10 c10] 24)).alloc (.cells #[.bool (ngB 0), .slice A11 n11 c11] 24)) (v31.heap.size + 1) (ngB 0) A11 n11 c11 := by have := Bx.new (v31.alloc (.cells #[.bool (ngB 0), .slice A10 n10 c10] 24)) (ngB 0) A11 n11 c11; simpa using this
        clear q_a0 f_a0 q_a1 f_a1
        replace x_a := x_a.keep hb1
        replace z_a := z_a.keep hb1
        replace z10 := z10.keep hb1
        replace z11 := z11.keep hb1
        replace hb := bthen hb hb1
        clear hb1
        generalize (v31.alloc (.cells #[.bool (ngB 0), .slice A10 n10 c10] 24)).alloc (.cells #[.bool (ngB 0), .slice A11 n11 c11] 24) = v32 at *
        obtain ⟨q_a0, f_a0, q_a1, f_a1⟩ := x_a.al
        obtain ⟨q_c0, f_c0, q_c1, f_c1⟩ := x_c.al
        obtain ⟨q_d0, f_d0, q_d1, f_d1⟩ := x_d.al
        go_wp2_with fail
        with_reducible refine (ZSign_any z10.zr (by omega)).mono ?_
        rintro e v33 ⟨rfl, hb1⟩
        replace x_a := x_a.keep hb1
        replace x_c := x_c.keep hb1
        replace x_d := x_d.keep hb1
        replace z_a := z_a.keep hb1
        replace z10 := z10.keep hb1
        replace z11 := z11.keep hb1
        replace hb := bthen hb hb1
        clear hb1
        clear q_a0 f_a0 q_a1 f_a1; obtain ⟨q_a0, f_a0, q_a1, f_a1⟩ := x_a.al
        clear q_c0 f_c0 q_c1 f_c1; obtain ⟨q_c0, f_c0, q_c1, f_c1⟩ := x_c.al
        clear q_d0 f_d0 q_d1 f_d1; obtain ⟨q_d0, f_d0, q_d1, f_d1⟩ := x_d.al
        rw [show sgnI 0 = 0 from rfl]
        go_wp2_with fail
        with_reducible refine (ZSign_any z11.zr (by omega)).mono ?_
        rintro e v34 ⟨rfl, hb1⟩
        replace x_a := x_a.keep hb1
        replace x_c := x_c.keep hb1
        replace x_d := x_d.keep hb1
        replace z_a := z_a.keep hb1
        replace z10 := z10.keep hb1
        replace z11 := z11.keep hb1
        replace hb := bthen hb hb1
        clear hb1
        clear q_a0 f_a0 q_a1 f_a1; obtain ⟨q_a0, f_a0, q_a1, f_a1⟩ := x_a.al
        clear q_c0 f_c0 q_c1 f_c1; obtain ⟨q_c0, f_c0, q_c1, f_c1⟩ := x_c.al
        clear q_d0 f_d0 q_d1 f_d1; obtain ⟨q_d0, f_d0, q_d1, f_d1⟩ := x_d.al
        rw [show sgnI 0 = 0 from rfl]
        go_wp2_with fail
        go_roundw
        case rel => exact ⟨5, by omega, by go_num, hb, x_a, z_a⟩
        case measure => simp [intOf]
      · have hkv : K9 = false := by rw [hsp]; simp; omega
        have HKV := Lib.hid hkv
        clear hkv hsp i1 i2
        obtain ⟨q_a0, f_a0, q_a1, f_a1⟩ := x_a.al
        go_wp2_with fail
        with_reducible refine (Lsum_at z_a 4 4 rfl (by omega) q N (by omega)).mono ?_
        rintro e v31 ⟨P, R, x, ⟨A10, n10, c10, A11, n11, c11, rfl, z10, z11, hb1⟩, hc⟩
        replace x_a := x_a.keep hb1
        replace z_a := z_a.keep hb1
        replace hb := bthen hb hb1
        clear hb1
        clear q_a0 f_a0 q_a1 f_a1; obtain ⟨q_a0, f_a0, q_a1, f_a1⟩ := x_a.al
        have hdk : okB T q N (dK 4) = K9 := HK.out
        rw [hdk, HKV.out] at hc
        rcases hc with ⟨hyes, hP, hR, rfl⟩ | ⟨hno, rfl, rfl, rfl⟩
        · cases hyes
        clear hno
        have y_a := ((x_a.alloc (.cells #[.bool (ngB 0), .slice A10 n10 c10] 24)).alloc (.cells #[.bool (ngB 0), .slice A11 n11 c11] 24)); have yq_a0 := y_a.c0; have yq_a1 := y_a.c1
        go_upto_region 19 with fail
        clear y_a yq_a0 yq_a1
        have l_a_c := x_a.lt
        have e_c : w.heap.size ≤ v31.heap.size := hb.size
        have hb1 := below_alloc2 v31 (.cells #[.bool (ngB 0), .slice A10 n10 c10] 24) (.cells #[.bool (ngB 0), .slice A11 n11 c11] 24)
        have x_c := (Bx.new v31 (ngB 0) A10 n10 c10).alloc (.cells #[.bool (ngB 0), .slice A11 n11 c11] 24)
        have x_d : Bx ((v31.alloc (.cells #[.bool (ngB 0), .slice A10 n10 c10] 24)).alloc (.cells #[.bool (ngB 0), .slice A11 n11 c11] 24)) (v31.heap.size + 1) (ngB 0) A11 n11 c11 := by have := Bx.new (v31.alloc (.cells #[.bool (ngB 0), .slice A10 n10 c10] 24)) (ngB 0) A11 n11 c11; simpa using this
        clear q_a0 f_a0 q_a1 f_a1
        replace x_a := x_a.keep hb1
        replace z_a := z_a.keep hb1
        replace z10 := z10.keep hb1
        replace z11 := z11.keep hb1
        replace hb := bthen hb hb1
        clear hb1
        generalize (v31.alloc (.cells #[.bool (ngB 0), .slice A10 n10 c10] 24)).alloc (.cells #[.bool (ngB 0), .slice A11 n11 c11] 24) = v32 at *
        obtain ⟨q_a0, f_a0, q_a1, f_a1⟩ := x_a.al
        obtain ⟨q_c0, f_c0, q_c1, f_c1⟩ := x_c.al
        obtain ⟨q_d0, f_d0, q_d1, f_d1⟩ := x_d.al
        go_wp2_with fail
        with_reducible refine (ZSign_any z10.zr (by omega)).mono ?_
        rintro e v33 ⟨rfl, hb1⟩
        replace x_a := x_a.keep hb1
        replace x_c := x_c.keep hb1
        replace x_d := x_d.keep hb1
        replace z_a := z_a.keep hb1
        replace z10 := z10.keep hb1
        replace z11 := z11.keep hb1
        replace hb := bthen hb hb1
        clear hb1
        clear q_a0 f_a0 q_a1 f_a1; obtain ⟨q_a0, f_a0, q_a1, f_a1⟩ := x_a.al
        clear q_c0 f_c0 q_c1 f_c1; obtain ⟨q_c0, f_c0, q_c1, f_c1⟩ := x_c.al
        clear q_d0 f_d0 q_d1 f_d1; obtain ⟨q_d0, f_d0, q_d1, f_d1⟩ := x_d.al
        rw [show sgnI 0 = 0 from rfl]
        go_wp2_with fail
        with_reducible refine (ZSign_any z11.zr (by omega)).mono ?_
        rintro e v34 ⟨rfl, hb1⟩
        replace x_a := x_a.keep hb1
        replace x_c := x_c.keep hb1
        replace x_d := x_d.keep hb1
        replace z_a := z_a.keep hb1
        replace z10 := z10.keep hb1
        replace z11 := z11.keep hb1
        replace hb := bthen hb hb1
        clear hb1
        clear q_a0 f_a0 q_a1 f_a1; obtain ⟨q_a0, f_a0, q_a1, f_a1⟩ := x_a.al
        clear q_c0 f_c0 q_c1 f_c1; obtain ⟨q_c0, f_c0, q_c1, f_c1⟩ := x_c.al
        clear q_d0 f_d0 q_d1 f_d1; obtain ⟨q_d0, f_d0, q_d1, f_d1⟩ := x_d.al
        rw [show sgnI 0 = 0 from rfl]
        go_wp2_with fail
        go_roundw
        case rel => exact ⟨5, by omega, by go_num, hb, x_a, z_a⟩
        case measure => simp [intOf]
      · have hkv : K9 = false := by rw [hsp]; simp; omega
        have HKV := Lib.hid hkv
        clear hkv hsp i1 i2
        obtain ⟨q_a0, f_a0, q_a1, f_a1⟩ := x_a.al
        go_wp2_with fail
        with_reducible refine (Lsum_at z_a 4 4 rfl (by omega) q N (by omega)).mono ?_
        rintro e v31 ⟨P, R, x, ⟨A10, n10, c10, A11, n11, c11, rfl, z10, z11, hb1⟩, hc⟩
        replace x_a := x_a.keep hb1
        replace z_a := z_a.keep hb1
        replace hb := bthen hb hb1
        clear hb1
        clear q_a0 f_a0 q_a1 f_a1; obtain ⟨q_a0, f_a0, q_a1, f_a1⟩ := x_a.al
        have hdk : okB T q N (dK 4) = K9 := HK.out
        rw [hdk, HKV.out] at hc
        rcases hc with ⟨hyes, hP, hR, rfl⟩ | ⟨hno, rfl, rfl, rfl⟩
        · cases hyes
        clear hno
        have y_a := ((x_a.alloc (.cells #[.bool (ngB 0), .slice A10 n10 c10] 24)).alloc (.cells #[.bool (ngB 0), .slice A11 n11 c11] 24)); have yq_a0 := y_a.c0; have yq_a1 := y_a.c1
        go_upto_region 19 with fail
        clear y_a yq_a0 yq_a1
        have l_a_c := x_a.lt
        have e_c : w.heap.size ≤ v31.heap.size := hb.size
        have hb1 := below_alloc2 v31 (.cells #[.bool (ngB 0), .slice A10 n10 c10] 24) (.cells #[.bool (ngB 0), .slice A11 n11 c11] 24)
        have x_c := (Bx.new v31 (ngB 0) A10 n10 c10).alloc (.cells #[.bool (ngB 0), .slice A11 n11 c11] 24)
        have x_d : Bx ((v31.alloc (.cells #[.bool (ngB 0), .slice A10 n10 c10] 24)).alloc (.cells #[.bool (ngB 0), .slice A11 n11 c11] 24)) (v31.heap.size + 1) (ngB 0) A11 n11 c11 := by have := Bx.new (v31.alloc (.cells #[.bool (ngB 0), .slice A10 n10 c10] 24)) (ngB 0) A11 n11 c11; simpa using this
        clear q_a0 f_a0 q_a1 f_a1
        replace x_a := x_a.keep hb1
        replace z_a := z_a.keep hb1
        replace z10 := z10.keep hb1
        replace z11 := z11.keep hb1
        replace hb := bthen hb hb1
        clear hb1
        generalize (v31.alloc (.cells #[.bool (ngB 0), .slice A10 n10 c10] 24)).alloc (.cells #[.bool (ngB 0), .slice A11 n11 c11] 24) = v32 at *
        obtain ⟨q_a0, f_a0, q_a1, f_a1⟩ := x_a.al
        obtain ⟨q_c0, f_c0, q_c1, f_c1⟩ := x_c.al
        obtain ⟨q_d0, f_d0, q_d1, f_d1⟩ := x_d.al
        go_wp2_with fail
        with_reducible refine (ZSign_any z10.zr (by omega)).mono ?_
        rintro e v33 ⟨rfl, hb1⟩
        replace x_a := x_a.keep hb1
        replace x_c := x_c.keep hb1
        replace x_d := x_d.keep hb1
        replace z_a := z_a.keep hb1
        replace z10 := z10.keep hb1
        replace z11 := z11.keep hb1
        replace hb := bthen hb hb1
        clear hb1
        clear q_a0 f_a0 q_a1 f_a1; obtain ⟨q_a0, f_a0, q_a1, f_a1⟩ := x_a.al
        clear q_c0 f_c0 q_c1 f_c1; obtain ⟨q_c0, f_c0, q_c1, f_c1⟩ := x_c.al
        clear q_d0 f_d0 q_d1 f_d1; obtain ⟨q_d0, f_d0, q_d1, f_d1⟩ := x_d.al
        rw [show sgnI 0 = 0 from rfl]
        go_wp2_with fail
        with_reducible refine (ZSign_any z11.zr (by omega)).mono ?_
        rintro e v34 ⟨rfl, hb1⟩
        replace x_a := x_a.keep hb1
        replace x_c := x_c.keep hb1
        replace x_d := x_d.keep hb1
        replace z_a := z_a.keep hb1
        replace z10 := z10.keep hb1
        replace z11 := z11.keep hb1
        replace hb := bthen hb hb1
        clear hb1
        clear q_a0 f_a0 q_a1 f_a1; obtain ⟨q_a0, f_a0, q_a1, f_a1⟩ := x_a.al
        clear q_c0 f_c0 q_c1 f_c1; obtain ⟨q_c0, f_c0, q_c1, f_c1⟩ := x_c.al
        clear q_d0 f_d0 q_d1 f_d1; obtain ⟨q_d0, f_d0, q_d1, f_d1⟩ := x_d.al
        rw [show sgnI 0 = 0 from rfl]
        go_wp2_with fail
        go_roundw
        case rel => exact ⟨5, by omega, by go_num, hb, x_a, z_a⟩
        case measure => simp [intOf]
      · have hkv : K9 = false := by rw [hsp]; simp; omega
        have HKV := Lib.hid hkv
        clear hkv hsp i1 i2
        obtain ⟨q_a0, f_a0, q_a1, f_a1⟩ := x_a.al
        go_wp2_with fail
        with_reducible refine (ZSign_any z_a (by omega)).mono ?_
        rintro e v31 ⟨rfl, hb1⟩
        replace x_a := x_a.keep hb1
        replace z_a := z_a.keep hb1
        replace hb := bthen hb hb1
        clear hb1
        clear q_a0 f_a0 q_a1 f_a1; obtain ⟨q_a0, f_a0, q_a1, f_a1⟩ := x_a.al
        rw [HS1.out]
        go_wp2_with fail
        with_reducible refine (Lsum_at z_a 4 4 rfl (by omega) q N (by omega)).mono ?_
        rintro e v32 ⟨P, R, x, ⟨A10, n10, c10, A11, n11, c11, rfl, z10, z11, hb1⟩, hc⟩
        replace x_a := x_a.keep hb1
        replace z_a := z_a.keep hb1
        replace hb := bthen hb hb1
        clear hb1
        clear q_a0 f_a0 q_a1 f_a1; obtain ⟨q_a0, f_a0, q_a1, f_a1⟩ := x_a.al
        have hdk : okB T q N (dK 4) = K9 := HK.out
        rw [hdk, HKV.out] at hc
        rcases hc with ⟨hyes, hP, hR, rfl⟩ | ⟨hno, rfl, rfl, rfl⟩
        · cases hyes
        clear hno
        have y_a := ((x_a.alloc (.cells #[.bool (ngB 0), .slice A10 n10 c10] 24)).alloc (.cells #[.bool (ngB 0), .slice A11 n11 c11] 24)); have yq_a0 := y_a.c0; have yq_a1 := y_a.c1
        go_upto_region 19 with fail
        clear y_a yq_a0 yq_a1
        have l_a_c := x_a.lt
        have e_c : w.heap.size ≤ v32.heap.size := hb.size
        have hb1 := below_alloc2 v32 (.cells #[.bool (ngB 0), .slice A10 n10 c10] 24) (.cells #[.bool (ngB 0), .slice A11 n11 c11] 24)
        have x_c := (Bx.new v32 (ngB 0) A10 n10 c10).alloc (.cells #[.bool (ngB 0), .slice A11 n11 c11] 24)
        have x_d : Bx ((v32.alloc (.cells #[.bool (ngB 0), .slice A10 n10 c10] 24)).alloc (.cells #[.bool (ngB 0), .slice A11 n11 c11] 24)) (v32.heap.size + 1) (ngB 0) A11 n11 c11 := by have := Bx.new (v32.alloc (.cells #[.bool (ngB 0), .slice A10 n10 c10] 24)) (ngB 0) A11 n11 c11; simpa using this
        clear q_a0 f_a0 q_a1 f_a1
        replace x_a := x_a.keep hb1
        replace z_a := z_a.keep hb1
        replace z10 := z10.keep hb1
        replace z11 := z11.keep hb1
        replace hb := bthen hb hb1
        clear hb1
        generalize (v32.alloc (.cells #[.bool (ngB 0), .slice A10 n10 c10] 24)).alloc (.cells #[.bool (ngB 0), .slice A11 n11 c11] 24) = v33 at *
        obtain ⟨q_a0, f_a0, q_a1, f_a1⟩ := x_a.al
        obtain ⟨q_c0, f_c0, q_c1, f_c1⟩ := x_c.al
        obtain ⟨q_d0, f_d0, q_d1, f_d1⟩ := x_d.al
        go_wp2_with fail
        with_reducible refine (ZSign_any z10.zr (by omega)).mono ?_
        rintro e v34 ⟨rfl, hb1⟩
        replace x_a := x_a.keep hb1
        replace x_c := x_c.keep hb1
        replace x_d := x_d.keep hb1
        replace z_a := z_a.keep hb1
        replace z10 := z10.keep hb1
        replace z11 := z11.keep hb1
        replace hb := bthen hb hb1
        clear hb1
        clear q_a0 f_a0 q_a1 f_a1; obtain ⟨q_a0, f_a0, q_a1, f_a1⟩ := x_a.al
        clear q_c0 f_c0 q_c1 f_c1; obtain ⟨q_c0, f_c0, q_c1, f_c1⟩ := x_c.al
        clear q_d0 f_d0 q_d1 f_d1; obtain ⟨q_d0, f_d0, q_d1, f_d1⟩ := x_d.al
        rw [show sgnI 0 = 0 from rfl]
        go_wp2_with fail
        with_reducible refine (ZSign_any z11.zr (by omega)).mono ?_
        rintro e v35 ⟨rfl, hb1⟩
        replace x_a := x_a.keep hb1
        replace x_c := x_c.keep hb1
        replace x_d := x_d.keep hb1
        replace z_a := z_a.keep hb1
        replace z10 := z10.keep hb1
        replace z11 := z11.keep hb1
        replace hb := bthen hb hb1
        clear hb1
        clear q_a0 f_a0 q_a1 f_a1; obtain ⟨q_a0, f_a0, q_a1, f_a1⟩ := x_a.al
        clear q_c0 f_c0 q_c1 f_c1; obtain ⟨q_c0, f_c0, q_c1, f_c1⟩ := x_c.al
        clear q_d0 f_d0 q_d1 f_d1; obtain ⟨q_d0, f_d0, q_d1, f_d1⟩ := x_d.al
        rw [show sgnI 0 = 0 from rfl]
        go_wp2_with fail
        go_roundw
        case rel => exact ⟨5, by omega, by go_num, hb, x_a, z_a⟩
        case measure => simp [intOf]
      · have hkv : K9 = false := by rw [hsp]; simp; omega
        have HKV := Lib.hid hkv
        clear hkv hsp i1 i2
        obtain ⟨q_a0, f_a0, q_a1, f_a1⟩ := x_a.al
        go_wp2_with fail
        with_reducible refine (ZSign_any z_a (by omega)).mono ?_
        rintro e v31 ⟨rfl, hb1⟩
        replace x_a := x_a.keep hb1
        replace z_a := z_a.keep hb1
        replace hb := bthen hb hb1
        clear hb1
        clear q_a0 f_a0 q_a1 f_a1; obtain ⟨q_a0, f_a0, q_a1, f_a1⟩ := x_a.al
        rw [HS1.out]
        go_wp2_with fail
        with_reducible refine (ZShl_any z_a 1 150 (by omega) (by omega)).mono ?_
        rintro e v32 ⟨A20, n20, c20, rfl, z20, hb1⟩
        replace x_a := x_a.keep hb1
        replace z_a := z_a.keep hb1
        replace hb := bthen hb hb1
        clear hb1
        clear q_a0 f_a0 q_a1 f_a1; obtain ⟨q_a0, f_a0, q_a1, f_a1⟩ := x_a.al
        go_wp2_with fail
        with_reducible refine (ZOf_any 4 (by omega) (by omega)).mono ?_
        rintro e v33 ⟨A21, n21, c21, rfl, z21, hb1⟩
        replace x_a := x_a.keep hb1
        replace z_a := z_a.keep hb1
        replace z20 := z20.keep hb1
        replace hb := bthen hb hb1
        clear hb1
        clear q_a0 f_a0 q_a1 f_a1; obtain ⟨q_a0, f_a0, q_a1, f_a1⟩ := x_a.al
        go_wp2_with fail
        with_reducible refine (ZShl_any z21.zr q 130 (by omega) (by omega)).mono ?_
        rintro e v34 ⟨A22, n22, c22, rfl, z22, hb1⟩
        replace x_a := x_a.keep hb1
        replace z_a := z_a.keep hb1
        replace z20 := z20.keep hb1
        replace z21 := z21.keep hb1
        replace hb := bthen hb hb1
        clear hb1
        clear q_a0 f_a0 q_a1 f_a1; obtain ⟨q_a0, f_a0, q_a1, f_a1⟩ := x_a.al
        rw [HD2.out] at z22 ⊢
        go_wp2_with fail
        with_reducible refine (ZCmp_any z20.zr z22.zr (by omega) (by omega)).mono ?_
        rintro e v35 ⟨rfl, hb1⟩
        replace x_a := x_a.keep hb1
        replace z_a := z_a.keep hb1
        replace z20 := z20.keep hb1
        replace z21 := z21.keep hb1
        replace z22 := z22.keep hb1
        replace hb := bthen hb hb1
        clear hb1
        clear q_a0 f_a0 q_a1 f_a1; obtain ⟨q_a0, f_a0, q_a1, f_a1⟩ := x_a.al
        rw [HS2.out]
        clear z20 z21 z22
        go_wp2_with fail
        with_reducible refine (Lsum_at z_a 4 4 rfl (by omega) q N (by omega)).mono ?_
        rintro e v36 ⟨P, R, x, ⟨A10, n10, c10, A11, n11, c11, rfl, z10, z11, hb1⟩, hc⟩
        replace x_a := x_a.keep hb1
        replace z_a := z_a.keep hb1
        replace hb := bthen hb hb1
        clear hb1
        clear q_a0 f_a0 q_a1 f_a1; obtain ⟨q_a0, f_a0, q_a1, f_a1⟩ := x_a.al
        have hdk : okB T q N (dK 4) = K9 := HK.out
        rw [hdk, HKV.out] at hc
        rcases hc with ⟨hyes, hP, hR, rfl⟩ | ⟨hno, rfl, rfl, rfl⟩
        · cases hyes
        clear hno
        have y_a := ((x_a.alloc (.cells #[.bool (ngB 0), .slice A10 n10 c10] 24)).alloc (.cells #[.bool (ngB 0), .slice A11 n11 c11] 24)); have yq_a0 := y_a.c0; have yq_a1 := y_a.c1
        go_upto_region 19 with fail
        clear y_a yq_a0 yq_a1
        have l_a_c := x_a.lt
        have e_c : w.heap.size ≤ v36.heap.size := hb.size
        have hb1 := below_alloc2 v36 (.cells #[.bool (ngB 0), .slice A10 n10 c10] 24) (.cells #[.bool (ngB 0), .slice A11 n11 c11] 24)
        have x_c := (Bx.new v36 (ngB 0) A10 n10 c10).alloc (.cells #[.bool (ngB 0), .slice A11 n11 c11] 24)
        have x_d : Bx ((v36.alloc (.cells #[.bool (ngB 0), .slice A10 n10 c10] 24)).alloc (.cells #[.bool (ngB 0), .slice A11 n11 c11] 24)) (v36.heap.size + 1) (ngB 0) A11 n11 c11 := by have := Bx.new (v36.alloc (.cells #[.bool (ngB 0), .slice A10 n10 c10] 24)) (ngB 0) A11 n11 c11; simpa using this
        clear q_a0 f_a0 q_a1 f_a1
        replace x_a := x_a.keep hb1
        replace z_a := z_a.keep hb1
        replace z10 := z10.keep hb1
        replace z11 := z11.keep hb1
        replace hb := bthen hb hb1
        clear hb1
        generalize (v36.alloc (.cells #[.bool (ngB 0), .slice A10 n10 c10] 24)).alloc (.cells #[.bool (ngB 0), .slice A11 n11 c11] 24) = v37 at *
        obtain ⟨q_a0, f_a0, q_a1, f_a1⟩ := x_a.al
        obtain ⟨q_c0, f_c0, q_c1, f_c1⟩ := x_c.al
        obtain ⟨q_d0, f_d0, q_d1, f_d1⟩ := x_d.al
        go_wp2_with fail
        with_reducible refine (ZSign_any z10.zr (by omega)).mono ?_
        rintro e v38 ⟨rfl, hb1⟩
        replace x_a := x_a.keep hb1
        replace x_c := x_c.keep hb1
        replace x_d := x_d.keep hb1
        replace z_a := z_a.keep hb1
        replace z10 := z10.keep hb1
        replace z11 := z11.keep hb1
        replace hb := bthen hb hb1
        clear hb1
        clear q_a0 f_a0 q_a1 f_a1; obtain ⟨q_a0, f_a0, q_a1, f_a1⟩ := x_a.al
        clear q_c0 f_c0 q_c1 f_c1; obtain ⟨q_c0, f_c0, q_c1, f_c1⟩ := x_c.al
        clear q_d0 f_d0 q_d1 f_d1; obtain ⟨q_d0, f_d0, q_d1, f_d1⟩ := x_d.al
        rw [show sgnI 0 = 0 from rfl]
        go_wp2_with fail
        with_reducible refine (ZSign_any z11.zr (by omega)).mono ?_
        rintro e v39 ⟨rfl, hb1⟩
        replace x_a := x_a.keep hb1
        replace x_c := x_c.keep hb1
        replace x_d := x_d.keep hb1
        replace z_a := z_a.keep hb1
        replace z10 := z10.keep hb1
        replace z11 := z11.keep hb1
        replace hb := bthen hb hb1
        clear hb1
        clear q_a0 f_a0 q_a1 f_a1; obtain ⟨q_a0, f_a0, q_a1, f_a1⟩ := x_a.al
        clear q_c0 f_c0 q_c1 f_c1; obtain ⟨q_c0, f_c0, q_c1, f_c1⟩ := x_c.al
        clear q_d0 f_d0 q_d1 f_d1; obtain ⟨q_d0, f_d0, q_d1, f_d1⟩ := x_d.al
        rw [show sgnI 0 = 0 from rfl]
        go_wp2_with fail
        go_roundw
        case rel => exact ⟨5, by omega, by go_num, hb, x_a, z_a⟩
        case measure => simp [intOf]
      · have hkv : K9 = true := by rw [hsp]; simp; omega
        have HKV := Lib.hid hkv
        clear hkv hsp i1 i2
        obtain ⟨q_a0, f_a0, q_a1, f_a1⟩ := x_a.al
        go_wp2_with fail
        with_reducible refine (ZSign_any z_a (by omega)).mono ?_
        rintro e v31 ⟨rfl, hb1⟩
        replace x_a := x_a.keep hb1
        replace z_a := z_a.keep hb1
        replace hb := bthen hb hb1
        clear hb1
        clear q_a0 f_a0 q_a1 f_a1; obtain ⟨q_a0, f_a0, q_a1, f_a1⟩ := x_a.al
        rw [HS1.out]
        go_wp2_with fail
        with_reducible refine (ZShl_any z_a 1 150 (by omega) (by omega)).mono ?_
        rintro e v32 ⟨A20, n20, c20, rfl, z20, hb1⟩
        replace x_a := x_a.keep hb1
        replace z_a := z_a.keep hb1
        replace hb := bthen hb hb1
        clear hb1
        clear q_a0 f_a0 q_a1 f_a1; obtain ⟨q_a0, f_a0, q_a1, f_a1⟩ := x_a.al
        go_wp2_with fail
        with_reducible refine (ZOf_any 4 (by omega) (by omega)).mono ?_
        rintro e v33 ⟨A21, n21, c21, rfl, z21, hb1⟩
        replace x_a := x_a.keep hb1
        replace z_a := z_a.keep hb1
        replace z20 := z20.keep hb1
        replace hb := bthen hb hb1
        clear hb1
        clear q_a0 f_a0 q_a1 f_a1; obtain ⟨q_a0, f_a0, q_a1, f_a1⟩ := x_a.al
        go_wp2_with fail
        with_reducible refine (ZShl_any z21.zr q 130 (by omega) (by omega)).mono ?_
        rintro e v34 ⟨A22, n22, c22, rfl, z22, hb1⟩
        replace x_a := x_a.keep hb1
        replace z_a := z_a.keep hb1
        replace z20 := z20.keep hb1
        replace z21 := z21.keep hb1
        replace hb := bthen hb hb1
        clear hb1
        clear q_a0 f_a0 q_a1 f_a1; obtain ⟨q_a0, f_a0, q_a1, f_a1⟩ := x_a.al
        rw [HD2.out] at z22 ⊢
        go_wp2_with fail
        with_reducible refine (ZCmp_any z20.zr z22.zr (by omega) (by omega)).mono ?_
        rintro e v35 ⟨rfl, hb1⟩
        replace x_a := x_a.keep hb1
        replace z_a := z_a.keep hb1
        replace z20 := z20.keep hb1
        replace z21 := z21.keep hb1
        replace z22 := z22.keep hb1
        replace hb := bthen hb hb1
        clear hb1
        clear q_a0 f_a0 q_a1 f_a1; obtain ⟨q_a0, f_a0, q_a1, f_a1⟩ := x_a.al
        rw [HS2.out]
        clear z20 z21 z22
        go_wp2_with fail
        with_reducible refine (Lsum_at z_a 4 4 rfl (by omega) q N (by omega)).mono ?_
        rintro e v36 ⟨P, R, x, ⟨A10, n10, c10, A11, n11, c11, rfl, z10, z11, hb1⟩, hc⟩
        replace x_a := x_a.keep hb1
        replace z_a := z_a.keep hb1
        replace hb := bthen hb hb1
        clear hb1
        clear q_a0 f_a0 q_a1 f_a1; obtain ⟨q_a0, f_a0, q_a1, f_a1⟩ := x_a.al
        have hdk : okB T q N (dK 4) = K9 := HK.out
        rw [hdk, HKV.out] at hc
        rcases hc with ⟨hyes, hP, hR, rfl⟩ | ⟨hno, rfl, rfl, rfl⟩
        rotate_left
        · cases hno
        clear hP hR hyes
        have y_a := ((x_a.alloc (.cells #[.bool (ngB P), .slice A10 n10 c10] 24)).alloc (.cells #[.bool (ngB R), .slice A11 n11 c11] 24)); have yq_a0 := y_a.c0; have yq_a1 := y_a.c1
        go_upto_region 19 with fail
        clear y_a yq_a0 yq_a1
        have l_a_c := x_a.lt
        have e_c : w.heap.size ≤ v36.heap.size := hb.size
        have hb1 := below_alloc2 v36 (.cells #[.bool (ngB P), .slice A10 n10 c10] 24) (.cells #[.bool (ngB R), .slice A11 n11 c11] 24)
        have x_c := (Bx.new v36 (ngB P) A10 n10 c10).alloc (.cells #[.bool (ngB R), .slice A11 n11 c11] 24)
        have x_d : Bx ((v36.alloc (.cells #[.bool (ngB P), .slice A10 n10 c10] 24)).alloc (.cells #[.bool (ngB R), .slice A11 n11 c11] 24)) (v36.heap.size + 1) (ngB R) A11 n11 c11 := by have := Bx.new (v36.alloc (.cells #[.bool (ngB P), .slice A10 n10 c10] 24)) (ngB R) A11 n11 c11; simpa using this
        clear q_a0 f_a0 q_a1 f_a1
        replace x_a := x_a.keep hb1
        replace z_a := z_a.keep hb1
        replace z10 := z10.keep hb1
        replace z11 := z11.keep hb1
        replace hb := bthen hb hb1
        clear hb1
        generalize (v36.alloc (.cells #[.bool (ngB P), .slice A10 n10 c10] 24)).alloc (.cells #[.bool (ngB R), .slice A11 n11 c11] 24) = v37 at *
        obtain ⟨q_a0, f_a0, q_a1, f_a1⟩ := x_a.al
        obtain ⟨q_c0, f_c0, q_c1, f_c1⟩ := x_c.al
        obtain ⟨q_d0, f_d0, q_d1, f_d1⟩ := x_d.al
        go_wp2_with fail
        go_roundw
        case rel => exact ⟨5, by omega, by go_num, hb, x_a, z_a⟩
        case measure => simp [intOf]

end Go.Proofs.Ythlpdljkclngdaa
