/-
  The law ZedHalves, as a call.
-/
import Derived.Test.YthnffjgbglncbaaZshown
import Derived.Test.YthnffjgbglncbaaZnew
namespace Go.Proofs.Ythnffjgbglncbaa
open Go.RowKit
set_option linter.unusedVariables false

theorem mask_i64 (x : Int) (k : Nat) (hk : k ≤ 62) : bits .and .i64 x (2 ^ k - 1) = x % 2 ^ k := by
  have hm : ((2 : Int) ^ k - 1) = ((2 ^ k - 1 : Nat) : Int) := by
    rw [Int.natCast_sub (Nat.two_pow_pos k)]; simp
  have hp : 2 ^ k ≤ 2 ^ 62 := Nat.pow_le_pow_right (by omega) hk
  have hb : (2 ^ k - 1) % 2 ^ 64 = 2 ^ k - 1 := Nat.mod_eq_of_lt (by omega)
  show IntKind.i64.wrap (((BitVec.ofInt 64 x &&& BitVec.ofInt 64 (2 ^ k - 1)).toNat : Nat) : Int) = _
  rw [hm, BitVec.ofInt_natCast, BitVec.toNat_and, BitVec.toNat_ofNat, hb, Nat.and_two_pow_sub_one_eq_mod, BitVec.toNat_ofInt]
  have e1 : ((x % ((2 ^ 64 : Nat) : Int)).toNat % 2 ^ k : Nat) = (x % 2 ^ k).toNat := by
    have h0 : 0 ≤ x % ((2 ^ 64 : Nat) : Int) := Int.emod_nonneg _ (by decide)
    have h1 : (0 : Int) < 2 ^ k := by exact_mod_cast Nat.two_pow_pos k
    have h2 : 0 ≤ x % (2 : Int) ^ k := Int.emod_nonneg _ (by omega)
    apply Int.ofNat.inj
    show (((x % ((2 ^ 64 : Nat) : Int)).toNat % 2 ^ k : Nat) : Int) = ((x % 2 ^ k).toNat : Int)
    rw [Int.natCast_emod, Int.toNat_of_nonneg h0, Int.toNat_of_nonneg h2]
    have h3 : ((2 ^ 64 : Nat) : Int) = 2 ^ k * 2 ^ (64 - k) := by
      rw [← Int.pow_add, show k + (64 - k) = 64 by omega]; simp
    rw [h3, Int.natCast_pow]
    exact Int.emod_emod_of_dvd x (Int.dvd_mul_right _ _)
  rw [e1]
  have h1 : (0 : Int) < 2 ^ k := by exact_mod_cast Nat.two_pow_pos k
  have h2 : 0 ≤ x % (2 : Int) ^ k := Int.emod_nonneg _ (by omega)
  have h3 : x % (2 : Int) ^ k < 2 ^ k := Int.emod_lt_of_pos _ h1
  have h4 : (2 : Int) ^ k ≤ 2 ^ 62 := by exact_mod_cast hp
  rw [Int.toNat_of_nonneg h2, IntKind.wrap_i64]
  have h5 : (2 : Int) ^ 62 = 4611686018427387904 := by decide
  generalize x % (2 : Int) ^ k = y at *
  omega
theorem mask_1023 (x : Int) : ∃ s : Nat, bits .and .i64 x 1023 = (s : Int) ∧ s ≤ 1023 := by
  have h := mask_i64 x 10 (by omega)
  have e : ((2 : Int) ^ 10 - 1) = 1023 := by decide
  have e2 : (2 : Int) ^ 10 = 1024 := by decide
  rw [e, e2] at h
  exact ⟨(x % 1024).toNat, by rw [h]; omega, by omega⟩
theorem sc_nat {s : Nat} (h : s ≤ 8192) : sc (s : Int) = s := by unfold sc; omega
theorem halves_rest (A : Int) (s : Nat) : 0 ≤ A - A / 2 ^ s * 2 ^ s ∧ bl (A - A / 2 ^ s * 2 ^ s).natAbs ≤ s := by
  have e : (2 : Int) ^ s = ((2 ^ s : Nat) : Int) := by rw [Int.natCast_pow]; rfl
  have hp : 0 < 2 ^ s := Nat.two_pow_pos s
  have h1 : A - A / 2 ^ s * 2 ^ s = A % 2 ^ s := by have := Int.emod_add_mul_ediv A (2 ^ s); rw [Int.mul_comm] at this; omega
  rw [h1]
  have h2 : 0 ≤ A % 2 ^ s := Int.emod_nonneg _ (by rw [e]; omega)
  have h3 : A % 2 ^ s < 2 ^ s := Int.emod_lt_of_pos _ (by rw [e]; omega)
  refine ⟨h2, bl_le ?_⟩
  rw [e] at h3
  omega
theorem halves_back (A : Int) (s : Nat) : A * 2 ^ s / 2 ^ s = A := Int.mul_ediv_cancel _ (by
  have e : (2 : Int) ^ s = ((2 ^ s : Nat) : Int) := by rw [Int.natCast_pow]; rfl
  have hp : 0 < 2 ^ s := Nat.two_pow_pos s
  rw [e]; omega)
set_option maxRecDepth 100000 in
set_option maxHeartbeats 16000000 in
theorem ZedHalves_any {b : Bool} {A : Option Addr} {n c : Nat} {l : List Int} {w : World} (h : Rd w w.heap.size A n c l) {x : Int} (_hx : -9223372036854775808 ≤ x ∧ x ≤ 9223372036854775807) :
    Calls Try.prog 12 #[.agg #[.bool b, .slice A n c], .int .i64 x] w fun e w' => e = .returned (.bool true) ∧ Below w.heap.size w w' := by
  obtain ⟨s, hs, hs1⟩ := mask_1023 x
  have hsc := sc_nat (s := s) (by omega)
  have HSC := Lib.hid hsc; clear hsc
  go_enter Try.func12, Try.ntmps12
  go_wp2_with fail
  obtain ⟨hb, x_a⟩ := box1 w b A n c
  generalize w.alloc (.cells #[.bool b, .slice A n c] 24) = v1 at *
  replace h := h.go hb
  have q_a0 := x_a.c0; have q_a1 := x_a.c1; have f_a0 := x_a.fr 0; have f_a1 := x_a.fr 1
  go_wp2_with fail
  with_reducible refine (Zshown_any _).mono ?_
  rintro e v2 ⟨rfl, hb1⟩
  replace x_a := x_a.keep hb1
  replace h := h.go hb1
  replace hb := bthen hb hb1
  clear hb1
  replace q_a0 := x_a.c0; replace q_a1 := x_a.c1; replace f_a0 := x_a.fr 0; replace f_a1 := x_a.fr 1
  go_wp2_with fail
  with_reducible refine (Zcut_at h 10 10 rfl (by omega)).mono ?_
  rintro e v3 ⟨Aa_, na_, ca_, rfl, pa, ka, hb1⟩
  replace x_a := x_a.keep hb1
  replace h := h.go hb1
  replace hb := bthen hb hb1
  clear hb1
  replace q_a0 := x_a.c0; replace q_a1 := x_a.c1; replace f_a0 := x_a.fr 0; replace f_a1 := x_a.fr 1
  obtain ⟨A, za⟩ : ∃ X, Zr _ b Aa_ na_ ca_ X 10 := ⟨_, _, pa, rfl, ka⟩
  clear pa ka
  clear h
  go_wp2_with fail
  replace za := za.put (b' := b) (A' := Aa_) (n' := na_) (c' := ca_) x_a
  replace hb := put_below (g := w.heap.size) hb (by omega) (.bool b) (.slice Aa_ na_ ca_)
  replace x_a := x_a.put b Aa_ na_ ca_
  clear q_a0 q_a1 f_a0 f_a1
  generalize (v3.setCell ⟨w.heap.size, 0, none⟩ (.bool b)).setCell ⟨w.heap.size, 1, none⟩ (.slice Aa_ na_ ca_) = v4 at *
  have q_a0 := x_a.c0; have q_a1 := x_a.c1; have f_a0 := x_a.fr 0; have f_a1 := x_a.fr 1
  with_reducible refine (ZShr_any za (s : Int) 11 (by omega) (by omega)).mono ?_
  rintro e v5 ⟨Ad, nd, cd, rfl, z_d, hb1⟩
  replace x_a := x_a.keep hb1
  replace za := za.keep hb1
  replace hb := bthen hb hb1
  clear hb1
  replace q_a0 := x_a.c0; replace q_a1 := x_a.c1; replace f_a0 := x_a.fr 0; replace f_a1 := x_a.fr 1
  rw [HSC.out] at z_d ⊢
  generalize hD : A / 2 ^ s = D at *
  have HD := Lib.hid hD; clear hD
  go_wp2_with fail
  have hb1 := below_alloc v5 (.cells #[.bool (ngB D), .slice Ad nd cd] 24)
  have l_a_d := x_a.lt
  have x_d := Bx.new v5 (ngB D) Ad nd cd
  have e_d : w.heap.size ≤ v5.heap.size := hb.size
  replace x_a := x_a.keep hb1
  replace za := za.keep hb1
  replace z_d := z_d.keep hb1
  replace hb := bthen hb hb1
  clear hb1
  replace q_a0 := x_a.c0; replace q_a1 := x_a.c1; replace f_a0 := x_a.fr 0; replace f_a1 := x_a.fr 1
  clear q_a0 q_a1 f_a0 f_a1
  generalize v5.alloc (.cells #[.bool (ngB D), .slice Ad nd cd] 24) = v6 at *
  have q_a0 := x_a.c0; have q_a1 := x_a.c1; have f_a0 := x_a.fr 0; have f_a1 := x_a.fr 1
  have q_d0 := x_d.c0; have q_d1 := x_d.c1; have f_d0 := x_d.fr 0; have f_d1 := x_d.fr 1
  go_upto_region 5 with fail
  have hv := Below.refl v6.heap.size v6
  have l_a_e := x_a.lt
  have l_d_e := x_d.lt
  go_cut [7] (fun s9 wx => BxNew v6 (A - D * 2 ^ s) 140 s9 wx)
  case first =>
    go_region_held3 (fun w' => w'.cell? ⟨w.heap.size, 0, none⟩ = some (.bool b) ∧ w'.cell? ⟨w.heap.size, 1, none⟩ = some (.slice Aa_ na_ ca_) ∧ w'.cell? ⟨v5.heap.size, 0, none⟩ = some (.bool (ngB D)) ∧ w'.cell? ⟨v5.heap.size, 1, none⟩ = some (.slice Ad nd cd))
      (first | (with_reducible exact ⟨x_a.c0, x_a.c1, x_d.c0, x_d.c1⟩) | (with_reducible exact ⟨(x_a.alloc _).c0, (x_a.alloc _).c1, (x_d.alloc _).c0, (x_d.alloc _).c1⟩) | (with_reducible exact ⟨(x_a.aside (by omega)).c0, (x_a.aside (by omega)).c1, (x_d.aside (by omega)).c0, (x_d.aside (by omega)).c1⟩) | (with_reducible exact ⟨((x_a.alloc _).aside (by omega)).c0, ((x_a.alloc _).aside (by omega)).c1, ((x_d.alloc _).aside (by omega)).c0, ((x_d.alloc _).aside (by omega)).c1⟩) | go_keep)
      (first | (go_at_call 49; (with_reducible refine (ZShl_any z_d.drw.zr (s : Int) 139 (by omega) (by omega)).mono ?_); rintro e v7 ⟨A4, n4, c4, rfl, s1, hb1⟩; replace hb1 := undrew hb1; (try replace x_e := x_e.keep hb1); replace hv := bthen hv hb1; have hvs_v7 := hv.size; replace x_a := x_a.keep hb1; replace x_d := x_d.keep hb1; replace za := za.keep hb1; replace z_d := z_d.keep hb1; replace hb := bthen hb hb1; clear hb1; replace q_a0 := x_a.c0; replace q_a1 := x_a.c1; replace f_a0 := x_a.fr 0; replace f_a1 := x_a.fr 1; replace q_d0 := x_d.c0; replace q_d1 := x_d.c1; replace f_d0 := x_d.fr 0; replace f_d1 := x_d.fr 1; rw [HSC.out] at s1 ⊢; (try (have q_e0 := x_e.c0; have q_e1 := x_e.c1; have f_e0 := x_e.fr 0; have f_e1 := x_e.fr 1))) | (go_at_call 49; (with_reducible refine (ZShl_any (z_d.keep (below_alloc v6 (.cells #[.bool false, .slice none 0 0] 24))).drw.zr (s : Int) 139 (by omega) (by omega)).mono ?_); rintro e v7 ⟨A4, n4, c4, rfl, s1, hb1⟩; replace hb1 := undrew hb1; have x_e := (Bx.new v6 false none 0 0).keep hb1; replace hb1 := bthen (below_alloc v6 (.cells #[.bool false, .slice none 0 0] 24)) hb1; replace hv := bthen hv hb1; have hvs_v7 := hv.size; replace x_a := x_a.keep hb1; replace x_d := x_d.keep hb1; replace za := za.keep hb1; replace z_d := z_d.keep hb1; replace hb := bthen hb hb1; clear hb1; replace q_a0 := x_a.c0; replace q_a1 := x_a.c1; replace f_a0 := x_a.fr 0; replace f_a1 := x_a.fr 1; replace q_d0 := x_d.c0; replace q_d1 := x_d.c1; replace f_d0 := x_d.fr 0; replace f_d1 := x_d.fr 1; rw [HSC.out] at s1 ⊢; (try (have q_e0 := x_e.c0; have q_e1 := x_e.c1; have f_e0 := x_e.fr 0; have f_e1 := x_e.fr 1))) | (go_at_call 33; (with_reducible refine (ZSub_any za s1.zr 140 (by omega) (by omega) (by omega)).mono ?_); rintro e v8 ⟨A5, n5, c5, rfl, s2, hb1⟩; (try replace x_e := x_e.keep hb1); replace hv := bthen hv hb1; have hvs_v8 := hv.size; replace x_a := x_a.keep hb1; replace x_d := x_d.keep hb1; replace za := za.keep hb1; replace z_d := z_d.keep hb1; replace s1 := s1.keep hb1; replace hb := bthen hb hb1; clear hb1; replace q_a0 := x_a.c0; replace q_a1 := x_a.c1; replace f_a0 := x_a.fr 0; replace f_a1 := x_a.fr 1; replace q_d0 := x_d.c0; replace q_d1 := x_d.c1; replace f_d0 := x_d.fr 0; replace f_d1 := x_d.fr 1; (try (have q_e0 := x_e.c0; have q_e1 := x_e.c1; have f_e0 := x_e.fr 0; have f_e1 := x_e.fr 1))) | (go_at_call 33; (with_reducible refine (ZSub_any (za.keep (below_alloc v7 (.cells #[.bool false, .slice none 0 0] 24))) (s1.keep (below_alloc v7 (.cells #[.bool false, .slice none 0 0] 24))).zr 140 (by omega) (by omega) (by omega)).mono ?_); rintro e v8 ⟨A5, n5, c5, rfl, s2, hb1⟩; have x_e := (Bx.new v7 false none 0 0).keep hb1; replace hb1 := bthen (below_alloc v7 (.cells #[.bool false, .slice none 0 0] 24)) hb1; replace hv := bthen hv hb1; have hvs_v8 := hv.size; replace x_a := x_a.keep hb1; replace x_d := x_d.keep hb1; replace za := za.keep hb1; replace z_d := z_d.keep hb1; replace s1 := s1.keep hb1; replace hb := bthen hb hb1; clear hb1; replace q_a0 := x_a.c0; replace q_a1 := x_a.c1; replace f_a0 := x_a.fr 0; replace f_a1 := x_a.fr 1; replace q_d0 := x_d.c0; replace q_d1 := x_d.c1; replace f_d0 := x_d.fr 0; replace f_d1 := x_d.fr 1; (try (have q_e0 := x_e.c0; have q_e1 := x_e.c1; have f_e0 := x_e.fr 0; have f_e1 := x_e.fr 1))))
    all_goals go_wp2_with fail
    all_goals go_meet
    all_goals first | exact BxNew.new hv s2 | exact BxNew.put hv x_e (by omega) s2
  case rest =>
    obtain ⟨g9, A10, n10, c10, rfl, x_e, z_e, e_e, hb1⟩ := hcut
    clear hv
    replace x_a := x_a.keep hb1
    replace x_d := x_d.keep hb1
    replace za := za.keep hb1
    replace z_d := z_d.keep hb1
    replace hb := bthen hb hb1
    clear hb1
    replace q_a0 := x_a.c0; replace q_a1 := x_a.c1; replace f_a0 := x_a.fr 0; replace f_a1 := x_a.fr 1
    replace q_d0 := x_d.c0; replace q_d1 := x_d.c1; replace f_d0 := x_d.fr 0; replace f_d1 := x_d.fr 1
    clear q_a0 q_a1 f_a0 f_a1 q_d0 q_d1 f_d0 f_d1
    generalize wc = v11 at *
    have q_a0 := x_a.c0; have q_a1 := x_a.c1; have f_a0 := x_a.fr 0; have f_a1 := x_a.fr 1
    have q_d0 := x_d.c0; have q_d1 := x_d.c1; have f_d0 := x_d.fr 0; have f_d1 := x_d.fr 1
    have q_e0 := x_e.c0; have q_e1 := x_e.c1; have f_e0 := x_e.fr 0; have f_e1 := x_e.fr 1
    obtain ⟨hR0, hRb⟩ := halves_rest A s
    rw [HD.out] at hR0 hRb
    have hback := halves_back A s
    have HBK := Lib.hid hback; clear hback
    have hsg : 0 ≤ sgnI (A - D * 2 ^ s) := by have := mt (sgnI_lt0 (X := A - D * 2 ^ s)).1 (by omega); omega
    clear hR0
    generalize hR9 : A - D * 2 ^ s = R at *
    have hi1 : ((bl R.natAbs : Nat) : Int) ≤ s := by omega
    generalize hS9 : sgnI R = S at *
    have HS := Lib.hid hS9; clear hS9
    generalize hB9 : bl R.natAbs = β at *
    have HBT := Lib.hid hB9; clear hB9
    have HR9 := Lib.hid hR9; clear hR9
    have hS1 : S ≤ 1 := by rw [← HS.out]; exact (sgnI_is R).2
    go_wp2_with fail
    go_region_held3 (fun w' => w'.cell? ⟨w.heap.size, 0, none⟩ = some (.bool b) ∧ w'.cell? ⟨w.heap.size, 1, none⟩ = some (.slice Aa_ na_ ca_) ∧ w'.cell? ⟨g9, 0, none⟩ = some (.bool (ngB R)) ∧ w'.cell? ⟨g9, 1, none⟩ = some (.slice A10 n10 c10))
      (first | (with_reducible exact ⟨x_a.c0, x_a.c1, x_e.c0, x_e.c1⟩) | (with_reducible exact ⟨(x_a.aside (by omega)).c0, (x_a.aside (by omega)).c1, (x_e.aside (by omega)).c0, (x_e.aside (by omega)).c1⟩) | (with_reducible exact ⟨((x_a.aside (by omega)).aside (by omega)).c0, ((x_a.aside (by omega)).aside (by omega)).c1, ((x_e.aside (by omega)).aside (by omega)).c0, ((x_e.aside (by omega)).aside (by omega)).c1⟩) | go_keep)
      (first | (go_at_call 21; (with_reducible refine (ZSign_any z_e.zr.drw (by omega)).mono ?_); rintro e v12 ⟨rfl, hb1⟩; replace hb1 := undrew hb1; replace x_a := x_a.keep hb1; replace x_d := x_d.keep hb1; replace x_e := x_e.keep hb1; replace za := za.keep hb1; replace z_d := z_d.keep hb1; replace z_e := z_e.keep hb1; replace hb := bthen hb hb1; clear hb1; replace q_a0 := x_a.c0; replace q_a1 := x_a.c1; replace f_a0 := x_a.fr 0; replace f_a1 := x_a.fr 1; replace q_d0 := x_d.c0; replace q_d1 := x_d.c1; replace f_d0 := x_d.fr 0; replace f_d1 := x_d.fr 1; replace q_e0 := x_e.c0; replace q_e1 := x_e.c1; replace f_e0 := x_e.fr 0; replace f_e1 := x_e.fr 1; rw [HS.out]) | (go_at_call 27; (with_reducible refine (ZBitLen_any z_e.zr).mono ?_); rintro e v13 ⟨rfl, hb1⟩; replace x_a := x_a.keep hb1; replace x_d := x_d.keep hb1; replace x_e := x_e.keep hb1; replace za := za.keep hb1; replace z_d := z_d.keep hb1; replace z_e := z_e.keep hb1; replace hb := bthen hb hb1; clear hb1; replace q_a0 := x_a.c0; replace q_a1 := x_a.c1; replace f_a0 := x_a.fr 0; replace f_a1 := x_a.fr 1; replace q_d0 := x_d.c0; replace q_d1 := x_d.c1; replace f_d0 := x_d.fr 0; replace f_d1 := x_d.fr 1; replace q_e0 := x_e.c0; replace q_e1 := x_e.c1; replace f_e0 := x_e.fr 0; replace f_e1 := x_e.fr 1; rw [HBT.out]) | (go_at_call 49; (with_reducible refine (ZShl_any za (s : Int) 138 (by omega) (by omega)).mono ?_); rintro e v14 ⟨A6, n6, c6, rfl, s3, hb1⟩; replace x_a := x_a.keep hb1; replace x_d := x_d.keep hb1; replace x_e := x_e.keep hb1; replace za := za.keep hb1; replace z_d := z_d.keep hb1; replace z_e := z_e.keep hb1; replace hb := bthen hb hb1; clear hb1; replace q_a0 := x_a.c0; replace q_a1 := x_a.c1; replace f_a0 := x_a.fr 0; replace f_a1 := x_a.fr 1; replace q_d0 := x_d.c0; replace q_d1 := x_d.c1; replace f_d0 := x_d.fr 0; replace f_d1 := x_d.fr 1; replace q_e0 := x_e.c0; replace q_e1 := x_e.c1; replace f_e0 := x_e.fr 0; replace f_e1 := x_e.fr 1; rw [HSC.out] at s3 ⊢) | (go_at_call 51; (with_reducible refine (ZShr_any s3.zr (s : Int) 139 (by omega) (by omega)).mono ?_); rintro e v15 ⟨A7, n7, c7, rfl, s4, hb1⟩; replace x_a := x_a.keep hb1; replace x_d := x_d.keep hb1; replace x_e := x_e.keep hb1; replace za := za.keep hb1; replace z_d := z_d.keep hb1; replace z_e := z_e.keep hb1; replace s3 := s3.keep hb1; replace hb := bthen hb hb1; clear hb1; replace q_a0 := x_a.c0; replace q_a1 := x_a.c1; replace f_a0 := x_a.fr 0; replace f_a1 := x_a.fr 1; replace q_d0 := x_d.c0; replace q_d1 := x_d.c1; replace f_d0 := x_d.fr 0; replace f_d1 := x_d.fr 1; replace q_e0 := x_e.c0; replace q_e1 := x_e.c1; replace f_e0 := x_e.fr 0; replace f_e1 := x_e.fr 1; rw [HSC.out] at s4 ⊢) | (go_at_call 25; (with_reducible refine (ZSame_any s4.zr za (by omega) (by omega)).mono ?_); rintro e v16 ⟨rfl, hb1⟩; replace x_a := x_a.keep hb1; replace x_d := x_d.keep hb1; replace x_e := x_e.keep hb1; replace za := za.keep hb1; replace z_d := z_d.keep hb1; replace z_e := z_e.keep hb1; replace s3 := s3.keep hb1; replace s4 := s4.keep hb1; replace hb := bthen hb hb1; clear hb1; replace q_a0 := x_a.c0; replace q_a1 := x_a.c1; replace f_a0 := x_a.fr 0; replace f_a1 := x_a.fr 1; replace q_d0 := x_d.c0; replace q_d1 := x_d.c1; replace f_d0 := x_d.fr 0; replace f_d1 := x_d.fr 1; replace q_e0 := x_e.c0; replace q_e1 := x_e.c1; replace f_e0 := x_e.fr 0; replace f_e1 := x_e.fr 1; rw [eqB_of HBK.out]))
    go_wp2
    go_ret
    exact ⟨rfl, hb⟩

end Go.Proofs.Ythnffjgbglncbaa
