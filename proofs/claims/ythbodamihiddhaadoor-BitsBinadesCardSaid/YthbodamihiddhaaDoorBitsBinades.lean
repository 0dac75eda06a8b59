/-
  The law BitsBinades, as a call.
-/
import Derived.Test.YthbodamihiddhaaDoorBshown
namespace Go.Proofs.YthbodamihiddhaaDoor
open Go.RowKit
set_option linter.unusedVariables false

/-- A binade's first pattern, a place in it, and the one before. -/
theorem bin_core {e : Int} (he : -1022 ≤ e ∧ e ≤ 1023) {b p : Nat} (hb : (e + 1023).toNat * 4503599627370496 = b) (hp : p < 4503599627370496) :
    (b + p < 18446744073709551616 ∧ nmN (b + p) = true ∧ ((fdN (b + p) : Nat) : Int) - 1023 = e) ∧
    (b < 18446744073709551616 ∧ fdN b ≠ 2047 ∧ od (zi (sgN b) (mnN b)) = 1 ∧ nE (zi (sgN b) (mnN b)) (exN b) = e) ∧
    (1 ≤ b ∧ ((e = -1022 ∧ nmN (b - 1) = false) ∨ (e ≠ -1022 ∧ nmN (b - 1) = true ∧ ((fdN (b - 1) : Nat) : Int) - 1023 = e - 1))) := by
  have f1 := fd_small (b := b + p) (by omega)
  have f2 := fd_small (b := b) (by omega)
  have f3 := fd_small (b := b - 1) (by omega)
  have g1 : fdN (b + p) = (e + 1023).toNat := by rw [f1.1]; omega
  have g2 : fdN b = (e + 1023).toNat := by rw [f2.1]; omega
  have g3 : fdN (b - 1) = (e + 1022).toNat := by rw [f3.1]; omega
  have g4 : frN b = 0 := by unfold frN; omega
  have g5 : mnN b = 4503599627370496 := by unfold mnN; rw [if_neg (by omega), g4]
  have g6 : exN b = e - 52 := by unfold exN; rw [if_neg (by omega), g2]; omega
  have g7 : zi (sgN b) (mnN b) = 1 * 2 ^ 52 := by rw [f2.2.2, g5]; rfl
  refine ⟨⟨by omega, ?_, by omega⟩, ⟨by omega, by omega, ?_, ?_⟩, by omega, ?_⟩
  · unfold nmN; rw [g1]; simp; omega
  · rw [g7, od_shl, od_one]
  · rw [g7, g6, nE_shl, nE_one]; omega
  · by_cases h : e = -1022
    · left; refine ⟨h, ?_⟩; unfold nmN; rw [g3, h]; rfl
    · right; refine ⟨h, ?_, by omega⟩; unfold nmN; rw [g3]; simp; omega
theorem lm_nat {x : Int} (h : Lm x) : ∃ b : Nat, x = b ∧ b < 18446744073709551616 := by
  unfold Lm at h; rw [Wd_eq] at h
  exact ⟨x.toNat, by omega, by omega⟩

set_option maxRecDepth 100000 in
set_option maxHeartbeats 8000000 in
theorem BitsBinades_any {e x : Int} {w : World} (hT : Tab w) (he : -9223372036854775808 ≤ e ∧ e ≤ 9223372036854775807) (hx : Lm x) :
    Calls Tryd.prog 7 #[.int .i64 e, .int .u64 x] w fun e w' => e = .returned (.bool true) ∧ Below w.heap.size w w' := by
  obtain ⟨pl, rfl, hl⟩ := lm_nat hx
  clear hx
  by_cases hr : -1022 ≤ e ∧ e ≤ 1023
  · obtain ⟨b, hbb⟩ : ∃ b : Nat, (e + 1023).toNat * 4503599627370496 = b := ⟨_, rfl⟩
    obtain ⟨p, hpp⟩ : ∃ p : Nat, pl % 4503599627370496 = p := ⟨_, rfl⟩
    have hp : p < 4503599627370496 := by omega
    obtain ⟨⟨i1, i2, i3⟩, ⟨j1, j2, j3, j4⟩, k1, k2⟩ := bin_core hr hbb hp
    have hpm : (pl : Int).tmod 4503599627370496 = (p : Int) := by rw [Int.tmod_eq_emod_of_nonneg (by omega)]; omega
    have hw1 : IntKind.u64.wrap ((b : Int) + p) = ((b + p : Nat) : Int) := by rw [wrap_u64]; omega
    have hw2 : IntKind.u64.wrap ((b : Int) - 1) = ((b - 1 : Nat) : Int) := by rw [wrap_u64]; omega
    have hw3 : IntKind.i64.wrap (e - 1) = e - 1 := wrap_in (by omega) (by omega)
    have hin : In e := ⟨by omega, by omega⟩
    have hof : od (cM 1 e) = 1 ∧ nE (cM 1 e) (cE e) = e := by rw [(c_yes (X := 1) hin).1, (c_yes (X := 1) hin).2, nE_one]; exact ⟨od_one, rfl⟩
    have hcm : sgnI (alP 1 e e - alQ 1 e e) = 0 := by rw [cmp_vd hin hin, Int.sub_self]; rfl
    obtain ⟨B1, hB1⟩ : ∃ B1 : Nat, b + p = B1 := ⟨_, rfl⟩
    obtain ⟨B2, hB2⟩ : ∃ B2 : Nat, b - 1 = B2 := ⟨_, rfl⟩
    rw [hB1] at i1 i2 i3 hw1
    rw [hB2] at k2 hw2
    have HBB := Lib.hid hbb; have HI := Lib.hid (And.intro i1 (And.intro i2 i3)); have HJ := Lib.hid (And.intro j1 (And.intro j2 (And.intro j3 j4)))
    have HOF := Lib.hid hof; have HCM := Lib.hid hcm; have HP := Lib.hid hpp; have hB2l : B2 < 18446744073709551616 := by omega
    have HB2 := Lib.hid hB2l; have HL := Lib.hid hl; have HX := Lib.hid (And.intro k1 (And.intro hp (And.intro hB1 hB2)))
    clear hbb i1 i2 i3 j1 j2 j3 j4 hof hcm hpp hp hB2l k1 hB1 hB2 hl
    rcases k2 with ⟨k2, k3⟩ | ⟨k2, k3, k4⟩
    · have HK := Lib.hid k3; clear k3
      subst k2
      have hb := Below.refl w.heap.size w
      go_enter Tryd.func7, Tryd.ntmps7
      go_wp2_with fail
      with_reducible refine (Bshown_any hT).mono ?_
      rintro e v1 ⟨rfl, hb1⟩
      replace hT := hT.keep hb1
      replace hb := bthen hb hb1
      clear hb1
      go_wp2_with fail
      with_reducible refine (First_yes (-1022) hr).mono ?_
      rintro e v2 ⟨rfl, hb1⟩
      replace hT := hT.keep hb1
      replace hb := bthen hb hb1
      clear hb1
      rw [HBB.out]
      go_wp2_with fail
      with_reducible refine (Binade_yes _ B1 rfl HI.out.1 HI.out.2.1).mono ?_
      rintro e v3 ⟨rfl, hb1⟩
      replace hT := hT.keep hb1
      replace hb := bthen hb hb1
      clear hb1
      rw [HI.out.2.2]
      go_wp2_with fail
      with_reducible refine (Value_any _ b rfl HJ.out.1 hT HJ.out.2.1).mono ?_
      rintro e v4 ⟨A1, n1, c1, rfl, z_d, hb1⟩
      replace hT := hT.keep hb1
      replace hb := bthen hb hb1
      clear hb1
      rw [HJ.out.2.2.1] at z_d
      rw [HJ.out.2.2.1, HJ.out.2.2.2]
      go_wp2_with fail
      have hb1 := below_alloc v4 (.cells #[.bool (ngB 1), .slice A1 n1 c1, .int .i64 (-1022)] 30)
      have x_d := Dx.new v4 (ngB 1) A1 n1 c1 (-1022)
      have e_d : w.heap.size ≤ v4.heap.size := hb.size
      replace hT := hT.keep hb1
      replace z_d := z_d.keep hb1
      replace hb := bthen hb hb1
      clear hb1
      generalize v4.alloc (.cells #[.bool (ngB 1), .slice A1 n1 c1, .int .i64 (-1022)] 30) = v5 at *
      have q_d0 := x_d.c0; have q_d1 := x_d.c1; have f_d0 := x_d.fr 0; have f_d1 := x_d.fr 1; have q_d2 := x_d.c2; have f_d2 := x_d.fr 2
      skip
      with_reducible refine (Binade_no _ B2 rfl HB2.out HK.out).mono ?_
      rintro e v6 ⟨rfl, hb1⟩
      replace x_d := x_d.keep hb1
      replace hT := hT.keep hb1
      replace z_d := z_d.keep hb1
      replace hb := bthen hb hb1
      clear hb1
      replace q_d0 := x_d.c0; replace q_d1 := x_d.c1; replace f_d0 := x_d.fr 0; replace f_d1 := x_d.fr 1; replace q_d2 := x_d.c2; replace f_d2 := x_d.fr 2
      go_wp2_with fail
      with_reducible refine (Binade_no _ B2 rfl HB2.out HK.out).mono ?_
      rintro e v7 ⟨rfl, hb1⟩
      replace x_d := x_d.keep hb1
      replace hT := hT.keep hb1
      replace z_d := z_d.keep hb1
      replace hb := bthen hb hb1
      clear hb1
      replace q_d0 := x_d.c0; replace q_d1 := x_d.c1; replace f_d0 := x_d.fr 0; replace f_d1 := x_d.fr 1; replace q_d2 := x_d.c2; replace f_d2 := x_d.fr 2
      go_wp2_with fail
      refine wp_region_held_drew (S := fun w' => w'.cell? ⟨v4.heap.size, 0, none⟩ = some (.bool (ngB 1)) ∧ w'.cell? ⟨v4.heap.size, 1, none⟩ = some (.slice A1 n1 c1) ∧ w'.cell? ⟨v4.heap.size, 2, none⟩ = some (.int .i64 (-1022))) (by kernel_rfl) (by exact ⟨x_d.c0, x_d.c1, x_d.c2⟩) (fun hHeld => ?_)
      refine wpAnyH_take (i := 0) (oi := ({ dst := some 64, op := Op.move (Operand.tmp 5), type := 4, pos := "law.go:124", after := #[], guard := none } : Oper)) (v := ?_) rfl (by kernel_rfl) (by kernel_rfl) (by kernel_rfl) (fun _ _ _ h => h) (Or.inl ⟨by rfl, ?_⟩) (by assumption) ?_
      rotate_left
      · (intro w9 hSw; (try dsimp only at hSw); go_simp; all_goals with_reducible rfl)
      (try simp only [Act.put, List.setIfInBounds_toArray, List.set_cons_zero, List.set_cons_succ])
      refine wpAnyH_take (i := 1) (oi := ({ dst := some 65, op := Op.move (Operand.tmp 64), type := 4, pos := "law.go:124", after := #[{ on := 0, ground := Ground.data }], guard := none } : Oper)) (v := ?_) rfl (by kernel_rfl) (by kernel_rfl) (by kernel_rfl) (fun _ _ _ h => h) (Or.inl ⟨by rfl, ?_⟩) (by assumption) ?_
      rotate_left
      · (intro w9 hSw; (try dsimp only at hSw); go_simp; all_goals with_reducible rfl)
      (try simp only [Act.put, List.setIfInBounds_toArray, List.set_cons_zero, List.set_cons_succ])
      refine wpAnyH_take (i := 2) (oi := ({ dst := some 66, op := Op.move (Operand.tmp 10), type := 31, pos := "law.go:124", after := #[{ on := 1, ground := Ground.guard }], guard := some (1, true) } : Oper)) (v := ?_) rfl (by kernel_rfl) (by kernel_rfl) (by kernel_rfl) (fun _ _ _ h => h) (Or.inl ⟨by rfl, ?_⟩) (by assumption) ?_
      rotate_left
      · (intro w9 hSw; (try dsimp only at hSw); go_simp; all_goals with_reducible rfl)
      (try simp only [Act.put, List.setIfInBounds_toArray, List.set_cons_zero, List.set_cons_succ])
      refine wpAnyH_take (i := 3) (oi := ({ dst := some 67, op := Op.binOp BinOp.eql 31 (Operand.tmp 66) (Operand.const (Value.int IntKind.i64 0)) 31, type := 4, pos := "law.go:124", after := #[{ on := 2, ground := Ground.data }, { on := 1, ground := Ground.guard }], guard := some (1, true) } : Oper)) (v := ?_) rfl (by kernel_rfl) (by kernel_rfl) (by kernel_rfl) (fun _ _ _ h => h) (Or.inl ⟨by rfl, ?_⟩) (by assumption) ?_
      rotate_left
      · (intro w9 hSw; (try dsimp only at hSw); go_simp; all_goals with_reducible rfl)
      (try simp only [Act.put, List.setIfInBounds_toArray, List.set_cons_zero, List.set_cons_succ])
      refine wpAnyH_take (i := 4) (oi := ({ dst := some 68, op := Op.pick (Operand.tmp 65) (Operand.tmp 67) (Operand.const (Value.bool false)), type := 4, pos := "law.go:124", after := #[{ on := 1, ground := Ground.data }, { on := 3, ground := Ground.data }], guard := none } : Oper)) (v := ?_) rfl (by kernel_rfl) (by kernel_rfl) (by kernel_rfl) (fun _ _ _ h => h) (Or.inl ⟨by rfl, ?_⟩) (by assumption) ?_
      rotate_left
      · (intro w9 hSw; (try dsimp only at hSw); go_simp; all_goals with_reducible rfl)
      (try simp only [Act.put, List.setIfInBounds_toArray, List.set_cons_zero, List.set_cons_succ])
      refine wpAnyH_take (i := 5) (oi := ({ dst := some 69, op := Op.move (Operand.tmp 68), type := 4, pos := "law.go:124", after := #[{ on := 4, ground := Ground.data }, { on := 1, ground := Ground.chain }], guard := none } : Oper)) (v := ?_) rfl (by kernel_rfl) (by kernel_rfl) (by kernel_rfl) (fun _ _ _ h => h) (Or.inl ⟨by rfl, ?_⟩) (by assumption) ?_
      rotate_left
      · (intro w9 hSw; (try dsimp only at hSw); go_simp; all_goals with_reducible rfl)
      (try simp only [Act.put, List.setIfInBounds_toArray, List.set_cons_zero, List.set_cons_succ])
      refine wpAnyH_take (i := 6) (oi := ({ dst := some 70, op := Op.move (Operand.tmp 9), type := 3, pos := "law.go:124", after := #[{ on := 5, ground := Ground.guard }], guard := some (5, true) } : Oper)) (v := ?_) rfl (by kernel_rfl) (by kernel_rfl) (by kernel_rfl) (fun _ _ _ h => h) (Or.inl ⟨by rfl, ?_⟩) (by assumption) ?_
      rotate_left
      · (intro w9 hSw; (try dsimp only at hSw); go_simp; all_goals with_reducible rfl)
      (try simp only [Act.put, List.setIfInBounds_toArray, List.set_cons_zero, List.set_cons_succ])
      refine wpAnyH_take (i := 7) (oi := ({ dst := some 71, op := Op.move (Operand.tmp 0), type := 3, pos := "law.go:124", after := #[{ on := 5, ground := Ground.guard }], guard := some (5, true) } : Oper)) (v := ?_) rfl (by kernel_rfl) (by kernel_rfl) (by kernel_rfl) (fun _ _ _ h => h) (Or.inl ⟨by rfl, ?_⟩) (by assumption) ?_
      rotate_left
      · (intro w9 hSw; (try dsimp only at hSw); go_simp; all_goals with_reducible rfl)
      (try simp only [Act.put, List.setIfInBounds_toArray, List.set_cons_zero, List.set_cons_succ])
      refine wpAnyH_take (i := 8) (oi := ({ dst := some 72, op := Op.binOp BinOp.eql 3 (Operand.tmp 70) (Operand.tmp 71) 3, type := 4, pos := "law.go:124", after := #[{ on := 6, ground := Ground.data }, { on := 7, ground := Ground.data }, { on := 5, ground := Ground.guard }], guard := some (5, true) } : Oper)) (v := ?_) rfl (by kernel_rfl) (by kernel_rfl) (by kernel_rfl) (fun _ _ _ h => h) (Or.inl ⟨by rfl, ?_⟩) (by assumption) ?_
      rotate_left
      · (intro w9 hSw; (try dsimp only at hSw); go_simp; all_goals with_reducible rfl)
      (try simp only [Act.put, List.setIfInBounds_toArray, List.set_cons_zero, List.set_cons_succ])
      refine wpAnyH_take (i := 9) (oi := ({ dst := some 73, op := Op.pick (Operand.tmp 69) (Operand.tmp 72) (Operand.const (Value.bool false)), type := 4, pos := "law.go:124", after := #[{ on := 5, ground := Ground.data }, { on := 8, ground := Ground.data }], guard := none } : Oper)) (v := ?_) rfl (by kernel_rfl) (by kernel_rfl) (by kernel_rfl) (fun _ _ _ h => h) (Or.inl ⟨by rfl, ?_⟩) (by assumption) ?_
      rotate_left
      · (intro w9 hSw; (try dsimp only at hSw); go_simp; all_goals with_reducible rfl)
      (try simp only [Act.put, List.setIfInBounds_toArray, List.set_cons_zero, List.set_cons_succ])
      refine wpAnyH_take (i := 10) (oi := ({ dst := some 74, op := Op.move (Operand.tmp 73), type := 4, pos := "law.go:124", after := #[{ on := 9, ground := Ground.data }, { on := 5, ground := Ground.chain }], guard := none } : Oper)) (v := ?_) rfl (by kernel_rfl) (by kernel_rfl) (by kernel_rfl) (fun _ _ _ h => h) (Or.inl ⟨by rfl, ?_⟩) (by assumption) ?_
      rotate_left
      · (intro w9 hSw; (try dsimp only at hSw); go_simp; all_goals with_reducible rfl)
      (try simp only [Act.put, List.setIfInBounds_toArray, List.set_cons_zero, List.set_cons_succ])
      refine wpAnyH_take (i := 11) (oi := ({ dst := some 75, op := Op.load 30 (Operand.tmp 11), type := 30, pos := "law.go:124", after := #[{ on := 10, ground := Ground.guard }], guard := some (10, true) } : Oper)) (v := ?_) rfl (by kernel_rfl) (by kernel_rfl) (by kernel_rfl) (fun _ _ _ h => h) (Or.inl ⟨by rfl, ?_⟩) (by assumption) ?_
      rotate_left
      · (intro w9 hSw; (try dsimp only at hSw); go_simp; all_goals with_reducible rfl)
      (try simp only [Act.put, List.setIfInBounds_toArray, List.set_cons_zero, List.set_cons_succ])
      refine wpAnyH_take (i := 13) (oi := ({ dst := some 77, op := Op.move (Operand.tmp 0), type := 3, pos := "law.go:124", after := #[{ on := 10, ground := Ground.guard }], guard := some (10, true) } : Oper)) (v := ?_) rfl (by kernel_rfl) (by kernel_rfl) (by kernel_rfl) (fun _ _ _ h => h) (Or.inl ⟨by rfl, ?_⟩) (by assumption) ?_
      rotate_left
      · (intro w9 hSw; (try dsimp only at hSw); go_simp; all_goals with_reducible rfl)
      (try simp only [Act.put, List.setIfInBounds_toArray, List.set_cons_zero, List.set_cons_succ])
      refine wpAnyH_ready (rs := [12]) (by kernel_rfl) (by simp) ?_
      refine AllReadyH.cons (o := ({ dst := some 76, op := Op.call { callee := Callee.value (Operand.func 22), args := #[Operand.const (Value.int IntKind.i64 1)], argTypes := #[2] }, type := 28, pos := "law.go:124", after := #[{ on := 10, ground := Ground.chain }, { on := 10, ground := Ground.guard }], guard := some (10, true) } : Oper)) rfl (fun K hK => ?_) AllReadyH.nil
      go_simp
      with_reducible refine (ZOf_any 1 (by omega) (by omega)).mono ?_
      rintro e v8 ⟨A2, n2, c2, rfl, za, hb1⟩
      replace hb1 := undrew hb1
      replace x_d := x_d.keep hb1
      replace hT := hT.keep hb1
      replace z_d := z_d.keep hb1
      replace hb := bthen hb hb1
      clear hb1
      replace q_d0 := x_d.c0; replace q_d1 := x_d.c1; replace f_d0 := x_d.fr 0; replace f_d1 := x_d.fr 1; replace q_d2 := x_d.c2; replace f_d2 := x_d.fr 2
      (try go_wp2_with fail)
      refine hK.out _ _ (by exact ⟨x_d.c0, x_d.c1, x_d.c2⟩) (fun hHeld => ?_)
      clear hK K
      (try simp only [Act.put, List.setIfInBounds_toArray, List.set_cons_zero, List.set_cons_succ])
      refine wpAnyH_ready (rs := [14]) (by kernel_rfl) (by simp) ?_
      refine AllReadyH.cons (o := ({ dst := some 78, op := Op.call { callee := Callee.value (Operand.func 21), args := #[Operand.tmp 76, Operand.tmp 77], argTypes := #[28, 3] }, type := 30, pos := "law.go:124", after := #[{ on := 12, ground := Ground.data }, { on := 13, ground := Ground.data }, { on := 12, ground := Ground.chain }, { on := 10, ground := Ground.guard }], guard := some (10, true) } : Oper)) rfl (fun K hK => ?_) AllReadyH.nil
      go_simp
      with_reducible refine (DOf_any za.zr hT 2 (by omega) (by omega)).mono ?_
      rintro e v9 ⟨A3, n3, c3, rfl, zb, hb1⟩
      replace x_d := x_d.keep hb1
      replace hT := hT.keep hb1
      replace z_d := z_d.keep hb1
      replace za := za.keep hb1
      replace hb := bthen hb hb1
      clear hb1
      replace q_d0 := x_d.c0; replace q_d1 := x_d.c1; replace f_d0 := x_d.fr 0; replace f_d1 := x_d.fr 1; replace q_d2 := x_d.c2; replace f_d2 := x_d.fr 2
      rw [HOF.out.1] at zb
      rw [HOF.out.1, HOF.out.2]
      (try go_wp2_with fail)
      refine hK.out _ _ (by exact ⟨x_d.c0, x_d.c1, x_d.c2⟩) (fun hHeld => ?_)
      clear hK K
      (try simp only [Act.put, List.setIfInBounds_toArray, List.set_cons_zero, List.set_cons_succ])
      refine wpAnyH_ready (rs := [15]) (by kernel_rfl) (by simp) ?_
      refine AllReadyH.cons (o := ({ dst := some 79, op := Op.call { callee := Callee.value (Operand.func 20), args := #[Operand.tmp 75, Operand.tmp 78], argTypes := #[30, 30] }, type := 3, pos := "law.go:124", after := #[{ on := 11, ground := Ground.data }, { on := 14, ground := Ground.data }, { on := 14, ground := Ground.chain }, { on := 10, ground := Ground.guard }], guard := some (10, true) } : Oper)) rfl (fun K hK => ?_) AllReadyH.nil
      go_simp
      with_reducible refine (DCmp_any z_d.zr zb.zr (by omega) (by omega)).mono ?_
      rintro e v10 ⟨rfl, hb1⟩
      replace x_d := x_d.keep hb1
      replace hT := hT.keep hb1
      replace z_d := z_d.keep hb1
      replace za := za.keep hb1
      replace zb := zb.keep hb1
      replace hb := bthen hb hb1
      clear hb1
      replace q_d0 := x_d.c0; replace q_d1 := x_d.c1; replace f_d0 := x_d.fr 0; replace f_d1 := x_d.fr 1; replace q_d2 := x_d.c2; replace f_d2 := x_d.fr 2
      rw [HCM.out]
      (try go_wp2_with fail)
      refine hK.out _ _ (by exact ⟨x_d.c0, x_d.c1, x_d.c2⟩) (fun hHeld => ?_)
      clear hK K
      (try simp only [Act.put, List.setIfInBounds_toArray, List.set_cons_zero, List.set_cons_succ])
      refine wpAnyH_take (i := 16) (oi := ({ dst := some 80, op := Op.binOp BinOp.eql 3 (Operand.tmp 79) (Operand.const (Value.int IntKind.i64 0)) 3, type := 4, pos := "law.go:124", after := #[{ on := 15, ground := Ground.data }, { on := 10, ground := Ground.guard }], guard := some (10, true) } : Oper)) (v := ?_) rfl (by kernel_rfl) (by kernel_rfl) (by kernel_rfl) (fun _ _ _ h => h) (Or.inl ⟨by rfl, ?_⟩) (by assumption) ?_
      rotate_left
      · (intro w9 hSw; (try dsimp only at hSw); go_simp; all_goals with_reducible rfl)
      (try simp only [Act.put, List.setIfInBounds_toArray, List.set_cons_zero, List.set_cons_succ])
      refine wpAnyH_take (i := 17) (oi := ({ dst := some 81, op := Op.pick (Operand.tmp 74) (Operand.tmp 80) (Operand.const (Value.bool false)), type := 4, pos := "law.go:124", after := #[{ on := 10, ground := Ground.data }, { on := 16, ground := Ground.data }], guard := none } : Oper)) (v := ?_) rfl (by kernel_rfl) (by kernel_rfl) (by kernel_rfl) (fun _ _ _ h => h) (Or.inl ⟨by rfl, ?_⟩) (by assumption) ?_
      rotate_left
      · (intro w9 hSw; (try dsimp only at hSw); go_simp; all_goals with_reducible rfl)
      (try simp only [Act.put, List.setIfInBounds_toArray, List.set_cons_zero, List.set_cons_succ])
      refine wpAnyH_take (i := 18) (oi := ({ dst := some 82, op := Op.move (Operand.tmp 81), type := 4, pos := "law.go:124", after := #[{ on := 17, ground := Ground.data }, { on := 15, ground := Ground.chain }], guard := none } : Oper)) (v := ?_) rfl (by kernel_rfl) (by kernel_rfl) (by kernel_rfl) (fun _ _ _ h => h) (Or.inl ⟨by rfl, ?_⟩) (by assumption) ?_
      rotate_left
      · (intro w9 hSw; (try dsimp only at hSw); go_simp; all_goals with_reducible rfl)
      (try simp only [Act.put, List.setIfInBounds_toArray, List.set_cons_zero, List.set_cons_succ])
      refine wpAnyH_take (i := 19) (oi := ({ dst := some 83, op := Op.move (Operand.tmp 14), type := 31, pos := "law.go:124", after := #[{ on := 18, ground := Ground.guard }], guard := some (18, true) } : Oper)) (v := ?_) rfl (by kernel_rfl) (by kernel_rfl) (by kernel_rfl) (fun _ _ _ h => h) (Or.inl ⟨by rfl, ?_⟩) (by assumption) ?_
      rotate_left
      · (intro w9 hSw; (try dsimp only at hSw); go_simp; all_goals with_reducible rfl)
      (try simp only [Act.put, List.setIfInBounds_toArray, List.set_cons_zero, List.set_cons_succ])
      refine wpAnyH_take (i := 20) (oi := ({ dst := some 84, op := Op.binOp BinOp.eql 31 (Operand.tmp 83) (Operand.const (Value.int IntKind.i64 0)) 31, type := 4, pos := "law.go:124", after := #[{ on := 19, ground := Ground.data }, { on := 18, ground := Ground.guard }], guard := some (18, true) } : Oper)) (v := ?_) rfl (by kernel_rfl) (by kernel_rfl) (by kernel_rfl) (fun _ _ _ h => h) (Or.inl ⟨by rfl, ?_⟩) (by assumption) ?_
      rotate_left
      · (intro w9 hSw; (try dsimp only at hSw); go_simp; all_goals with_reducible rfl)
      (try simp only [Act.put, List.setIfInBounds_toArray, List.set_cons_zero, List.set_cons_succ])
      refine wpAnyH_take (i := 21) (oi := ({ dst := some 85, op := Op.move (Operand.tmp 84), type := 4, pos := "law.go:124", after := #[{ on := 20, ground := Ground.data }, { on := 18, ground := Ground.chain }, { on := 18, ground := Ground.guard }], guard := some (18, true) } : Oper)) (v := ?_) rfl (by kernel_rfl) (by kernel_rfl) (by kernel_rfl) (fun _ _ _ h => h) (Or.inl ⟨by rfl, ?_⟩) (by assumption) ?_
      rotate_left
      · (intro w9 hSw; (try dsimp only at hSw); go_simp; all_goals with_reducible rfl)
      (try simp only [Act.put, List.setIfInBounds_toArray, List.set_cons_zero, List.set_cons_succ])
      refine wpAnyH_take (i := 22) (oi := ({ dst := some 86, op := Op.move (Operand.tmp 15), type := 3, pos := "law.go:124", after := #[{ on := 21, ground := Ground.guard }], guard := some (21, true) } : Oper)) (v := undef) rfl (by kernel_rfl) (by kernel_rfl) (by kernel_rfl) (fun _ _ _ h => h) (Or.inr ⟨by rfl, rfl⟩) (by assumption) ?_
      (try simp only [Act.put, List.setIfInBounds_toArray, List.set_cons_zero, List.set_cons_succ])
      refine wpAnyH_take (i := 23) (oi := ({ dst := some 87, op := Op.move (Operand.tmp 0), type := 3, pos := "law.go:124", after := #[{ on := 21, ground := Ground.guard }], guard := some (21, true) } : Oper)) (v := undef) rfl (by kernel_rfl) (by kernel_rfl) (by kernel_rfl) (fun _ _ _ h => h) (Or.inr ⟨by rfl, rfl⟩) (by assumption) ?_
      (try simp only [Act.put, List.setIfInBounds_toArray, List.set_cons_zero, List.set_cons_succ])
      refine wpAnyH_take (i := 24) (oi := ({ dst := some 88, op := Op.binOp BinOp.sub 3 (Operand.tmp 87) (Operand.const (Value.int IntKind.i64 1)) 3, type := 3, pos := "law.go:124", after := #[{ on := 23, ground := Ground.data }, { on := 21, ground := Ground.guard }], guard := some (21, true) } : Oper)) (v := undef) rfl (by kernel_rfl) (by kernel_rfl) (by kernel_rfl) (fun _ _ _ h => h) (Or.inr ⟨by rfl, rfl⟩) (by assumption) ?_
      (try simp only [Act.put, List.setIfInBounds_toArray, List.set_cons_zero, List.set_cons_succ])
      refine wpAnyH_take (i := 25) (oi := ({ dst := some 89, op := Op.binOp BinOp.eql 3 (Operand.tmp 86) (Operand.tmp 88) 3, type := 4, pos := "law.go:124", after := #[{ on := 22, ground := Ground.data }, { on := 24, ground := Ground.data }, { on := 21, ground := Ground.guard }], guard := some (21, true) } : Oper)) (v := undef) rfl (by kernel_rfl) (by kernel_rfl) (by kernel_rfl) (fun _ _ _ h => h) (Or.inr ⟨by rfl, rfl⟩) (by assumption) ?_
      (try simp only [Act.put, List.setIfInBounds_toArray, List.set_cons_zero, List.set_cons_succ])
      refine wpAnyH_take (i := 26) (oi := ({ dst := some 90, op := Op.pick (Operand.tmp 85) (Operand.tmp 89) (Operand.const (Value.bool false)), type := 4, pos := "law.go:124", after := #[{ on := 21, ground := Ground.data }, { on := 25, ground := Ground.data }, { on := 18, ground := Ground.guard }], guard := some (18, true) } : Oper)) (v := ?_) rfl (by kernel_rfl) (by kernel_rfl) (by kernel_rfl) (fun _ _ _ h => h) (Or.inl ⟨by rfl, ?_⟩) (by assumption) ?_
      rotate_left
      · (intro w9 hSw; (try dsimp only at hSw); go_simp; all_goals with_reducible rfl)
      (try simp only [Act.put, List.setIfInBounds_toArray, List.set_cons_zero, List.set_cons_succ])
      refine wpAnyH_take (i := 27) (oi := ({ dst := some 91, op := Op.move (Operand.tmp 90), type := 4, pos := "law.go:124", after := #[{ on := 26, ground := Ground.data }, { on := 21, ground := Ground.chain }, { on := 18, ground := Ground.guard }], guard := some (18, true) } : Oper)) (v := ?_) rfl (by kernel_rfl) (by kernel_rfl) (by kernel_rfl) (fun _ _ _ h => h) (Or.inl ⟨by rfl, ?_⟩) (by assumption) ?_
      rotate_left
      · (intro w9 hSw; (try dsimp only at hSw); go_simp; all_goals with_reducible rfl)
      (try simp only [Act.put, List.setIfInBounds_toArray, List.set_cons_zero, List.set_cons_succ])
      refine wpAnyH_take (i := 28) (oi := ({ dst := some 92, op := Op.move (Operand.tmp 14), type := 31, pos := "law.go:124", after := #[{ on := 27, ground := Ground.guard }], guard := some (27, false) } : Oper)) (v := ?_) rfl (by kernel_rfl) (by kernel_rfl) (by kernel_rfl) (fun _ _ _ h => h) (Or.inl ⟨by rfl, ?_⟩) (by assumption) ?_
      rotate_left
      · (intro w9 hSw; (try dsimp only at hSw); go_simp; all_goals with_reducible rfl)
      (try simp only [Act.put, List.setIfInBounds_toArray, List.set_cons_zero, List.set_cons_succ])
      refine wpAnyH_take (i := 29) (oi := ({ dst := some 93, op := Op.binOp BinOp.neq 31 (Operand.tmp 92) (Operand.const (Value.int IntKind.i64 0)) 31, type := 4, pos := "law.go:124", after := #[{ on := 28, ground := Ground.data }, { on := 27, ground := Ground.guard }], guard := some (27, false) } : Oper)) (v := ?_) rfl (by kernel_rfl) (by kernel_rfl) (by kernel_rfl) (fun _ _ _ h => h) (Or.inl ⟨by rfl, ?_⟩) (by assumption) ?_
      rotate_left
      · (intro w9 hSw; (try dsimp only at hSw); go_simp; all_goals with_reducible rfl)
      (try simp only [Act.put, List.setIfInBounds_toArray, List.set_cons_zero, List.set_cons_succ])
      refine wpAnyH_take (i := 30) (oi := ({ dst := some 94, op := Op.move (Operand.tmp 93), type := 4, pos := "law.go:124", after := #[{ on := 29, ground := Ground.data }, { on := 27, ground := Ground.chain }, { on := 27, ground := Ground.guard }], guard := some (27, false) } : Oper)) (v := ?_) rfl (by kernel_rfl) (by kernel_rfl) (by kernel_rfl) (fun _ _ _ h => h) (Or.inl ⟨by rfl, ?_⟩) (by assumption) ?_
      rotate_left
      · (intro w9 hSw; (try dsimp only at hSw); go_simp; all_goals with_reducible rfl)
      (try simp only [Act.put, List.setIfInBounds_toArray, List.set_cons_zero, List.set_cons_succ])
      refine wpAnyH_take (i := 31) (oi := ({ dst := some 95, op := Op.move (Operand.tmp 0), type := 3, pos := "law.go:124", after := #[{ on := 30, ground := Ground.guard }], guard := some (30, true) } : Oper)) (v := ?_) rfl (by kernel_rfl) (by kernel_rfl) (by kernel_rfl) (fun _ _ _ h => h) (Or.inl ⟨by rfl, ?_⟩) (by assumption) ?_
      rotate_left
      · (intro w9 hSw; (try dsimp only at hSw); go_simp; all_goals with_reducible rfl)
      (try simp only [Act.put, List.setIfInBounds_toArray, List.set_cons_zero, List.set_cons_succ])
      refine wpAnyH_take (i := 32) (oi := ({ dst := some 96, op := Op.binOp BinOp.eql 3 (Operand.tmp 95) (Operand.const (Value.int IntKind.i64 (-1022))) 3, type := 4, pos := "law.go:124", after := #[{ on := 31, ground := Ground.data }, { on := 30, ground := Ground.guard }], guard := some (30, true) } : Oper)) (v := ?_) rfl (by kernel_rfl) (by kernel_rfl) (by kernel_rfl) (fun _ _ _ h => h) (Or.inl ⟨by rfl, ?_⟩) (by assumption) ?_
      rotate_left
      · (intro w9 hSw; (try dsimp only at hSw); go_simp; all_goals with_reducible rfl)
      (try simp only [Act.put, List.setIfInBounds_toArray, List.set_cons_zero, List.set_cons_succ])
      refine wpAnyH_take (i := 33) (oi := ({ dst := some 97, op := Op.pick (Operand.tmp 94) (Operand.tmp 96) (Operand.const (Value.bool false)), type := 4, pos := "law.go:124", after := #[{ on := 30, ground := Ground.data }, { on := 32, ground := Ground.data }, { on := 27, ground := Ground.guard }], guard := some (27, false) } : Oper)) (v := ?_) rfl (by kernel_rfl) (by kernel_rfl) (by kernel_rfl) (fun _ _ _ h => h) (Or.inl ⟨by rfl, ?_⟩) (by assumption) ?_
      rotate_left
      · (intro w9 hSw; (try dsimp only at hSw); go_simp; all_goals with_reducible rfl)
      (try simp only [Act.put, List.setIfInBounds_toArray, List.set_cons_zero, List.set_cons_succ])
      refine wpAnyH_take (i := 34) (oi := ({ dst := some 98, op := Op.pick (Operand.tmp 91) (Operand.const (Value.bool true)) (Operand.tmp 97), type := 4, pos := "law.go:124", after := #[{ on := 27, ground := Ground.data }, { on := 33, ground := Ground.data }, { on := 18, ground := Ground.guard }], guard := some (18, true) } : Oper)) (v := ?_) rfl (by kernel_rfl) (by kernel_rfl) (by kernel_rfl) (fun _ _ _ h => h) (Or.inl ⟨by rfl, ?_⟩) (by assumption) ?_
      rotate_left
      · (intro w9 hSw; (try dsimp only at hSw); go_simp; all_goals with_reducible rfl)
      (try simp only [Act.put, List.setIfInBounds_toArray, List.set_cons_zero, List.set_cons_succ])
      refine wpAnyH_take (i := 35) (oi := ({ dst := some 99, op := Op.pick (Operand.tmp 82) (Operand.tmp 98) (Operand.const (Value.bool false)), type := 4, pos := "law.go:124", after := #[{ on := 18, ground := Ground.data }, { on := 34, ground := Ground.data }], guard := none } : Oper)) (v := ?_) rfl (by kernel_rfl) (by kernel_rfl) (by kernel_rfl) (fun _ _ _ h => h) (Or.inl ⟨by rfl, ?_⟩) (by assumption) ?_
      rotate_left
      · (intro w9 hSw; (try dsimp only at hSw); go_simp; all_goals with_reducible rfl)
      (try simp only [Act.put, List.setIfInBounds_toArray, List.set_cons_zero, List.set_cons_succ])
      refine wpAnyH_take (i := 36) (oi := ({ dst := some 4, op := Op.assign (Operand.tmp 99), type := 4, pos := "law.go:124", after := #[{ on := 35, ground := Ground.data }, { on := 30, ground := Ground.chain }, { on := 0, ground := Ground.phase }, { on := 1, ground := Ground.phase }, { on := 2, ground := Ground.phase }, { on := 3, ground := Ground.phase }, { on := 4, ground := Ground.phase }, { on := 5, ground := Ground.phase }, { on := 6, ground := Ground.phase }, { on := 7, ground := Ground.phase }, { on := 8, ground := Ground.phase }, { on := 9, ground := Ground.phase }, { on := 10, ground := Ground.phase }, { on := 11, ground := Ground.phase }, { on := 12, ground := Ground.phase }, { on := 13, ground := Ground.phase }, { on := 14, ground := Ground.phase }, { on := 15, ground := Ground.phase }, { on := 16, ground := Ground.phase }, { on := 17, ground := Ground.phase }, { on := 18, ground := Ground.phase }, { on := 19, ground := Ground.phase }, { on := 20, ground := Ground.phase }, { on := 21, ground := Ground.phase }, { on := 22, ground := Ground.phase }, { on := 23, ground := Ground.phase }, { on := 24, ground := Ground.phase }, { on := 25, ground := Ground.phase }, { on := 26, ground := Ground.phase }, { on := 27, ground := Ground.phase }, { on := 28, ground := Ground.phase }, { on := 29, ground := Ground.phase }, { on := 30, ground := Ground.phase }, { on := 31, ground := Ground.phase }, { on := 32, ground := Ground.phase }, { on := 33, ground := Ground.phase }, { on := 34, ground := Ground.phase }, { on := 35, ground := Ground.phase }], guard := none } : Oper)) (v := ?_) rfl (by kernel_rfl) (by kernel_rfl) (by kernel_rfl) (fun _ _ _ h => h) (Or.inl ⟨by rfl, ?_⟩) (by assumption) ?_
      rotate_left
      · (intro w9 hSw; (try dsimp only at hSw); go_simp; all_goals with_reducible rfl)
      (try simp only [Act.put, List.setIfInBounds_toArray, List.set_cons_zero, List.set_cons_succ])
      refine wpAnyH_done (by kernel_rfl) ?_ _
      go_wp2
      go_ret
      exact ⟨rfl, hb⟩
    · have HK := Lib.hid k3; have HK4 := Lib.hid k4; clear k3 k4
      have hk2 : (e == -1022) = false := by simpa using k2
      clear k2
      have hb := Below.refl w.heap.size w
      go_enter Tryd.func7, Tryd.ntmps7
      go_wp2_with fail
      with_reducible refine (Bshown_any hT).mono ?_
      rintro e v1 ⟨rfl, hb1⟩
      replace hT := hT.keep hb1
      replace hb := bthen hb hb1
      clear hb1
      go_wp2_with fail
      with_reducible refine (First_yes e hr).mono ?_
      rintro e v2 ⟨rfl, hb1⟩
      replace hT := hT.keep hb1
      replace hb := bthen hb hb1
      clear hb1
      rw [HBB.out]
      go_wp2_with fail
      with_reducible refine (Binade_yes _ B1 rfl HI.out.1 HI.out.2.1).mono ?_
      rintro e v3 ⟨rfl, hb1⟩
      replace hT := hT.keep hb1
      replace hb := bthen hb hb1
      clear hb1
      rw [HI.out.2.2]
      go_wp2_with fail
      with_reducible refine (Value_any _ b rfl HJ.out.1 hT HJ.out.2.1).mono ?_
      rintro e v4 ⟨A1, n1, c1, rfl, z_d, hb1⟩
      replace hT := hT.keep hb1
      replace hb := bthen hb hb1
      clear hb1
      rw [HJ.out.2.2.1] at z_d
      rw [HJ.out.2.2.1, HJ.out.2.2.2]
      go_wp2_with fail
      have hb1 := below_alloc v4 (.cells #[.bool (ngB 1), .slice A1 n1 c1, .int .i64 e] 30)
      have x_d := Dx.new v4 (ngB 1) A1 n1 c1 e
      have e_d : w.heap.size ≤ v4.heap.size := hb.size
      replace hT := hT.keep hb1
      replace z_d := z_d.keep hb1
      replace hb := bthen hb hb1
      clear hb1
      generalize v4.alloc (.cells #[.bool (ngB 1), .slice A1 n1 c1, .int .i64 e] 30) = v5 at *
      have q_d0 := x_d.c0; have q_d1 := x_d.c1; have f_d0 := x_d.fr 0; have f_d1 := x_d.fr 1; have q_d2 := x_d.c2; have f_d2 := x_d.fr 2
      skip
      with_reducible refine (Binade_yes _ B2 rfl HB2.out HK.out).mono ?_
      rintro e v6 ⟨rfl, hb1⟩
      replace x_d := x_d.keep hb1
      replace hT := hT.keep hb1
      replace z_d := z_d.keep hb1
      replace hb := bthen hb hb1
      clear hb1
      replace q_d0 := x_d.c0; replace q_d1 := x_d.c1; replace f_d0 := x_d.fr 0; replace f_d1 := x_d.fr 1; replace q_d2 := x_d.c2; replace f_d2 := x_d.fr 2
      rw [HK4.out]
      go_wp2_with fail
      with_reducible refine (Binade_yes _ B2 rfl HB2.out HK.out).mono ?_
      rintro e v7 ⟨rfl, hb1⟩
      replace x_d := x_d.keep hb1
      replace hT := hT.keep hb1
      replace z_d := z_d.keep hb1
      replace hb := bthen hb hb1
      clear hb1
      replace q_d0 := x_d.c0; replace q_d1 := x_d.c1; replace f_d0 := x_d.fr 0; replace f_d1 := x_d.fr 1; replace q_d2 := x_d.c2; replace f_d2 := x_d.fr 2
      rw [HK4.out]
      go_wp2_with fail
      refine wp_region_held_drew (S := fun w' => w'.cell? ⟨v4.heap.size, 0, none⟩ = some (.bool (ngB 1)) ∧ w'.cell? ⟨v4.heap.size, 1, none⟩ = some (.slice A1 n1 c1) ∧ w'.cell? ⟨v4.heap.size, 2, none⟩ = some (.int .i64 e)) (by kernel_rfl) (by exact ⟨x_d.c0, x_d.c1, x_d.c2⟩) (fun hHeld => ?_)
      refine wpAnyH_take (i := 0) (oi := ({ dst := some 64, op := Op.move (Operand.tmp 5), type := 4, pos := "law.go:124", after := #[], guard := none } : Oper)) (v := ?_) rfl (by kernel_rfl) (by kernel_rfl) (by kernel_rfl) (fun _ _ _ h => h) (Or.inl ⟨by rfl, ?_⟩) (by assumption) ?_
      rotate_left
      · (intro w9 hSw; (try dsimp only at hSw); go_simp; all_goals with_reducible rfl)
      (try simp only [Act.put, List.setIfInBounds_toArray, List.set_cons_zero, List.set_cons_succ])
      refine wpAnyH_take (i := 1) (oi := ({ dst := some 65, op := Op.move (Operand.tmp 64), type := 4, pos := "law.go:124", after := #[{ on := 0, ground := Ground.data }], guard := none } : Oper)) (v := ?_) rfl (by kernel_rfl) (by kernel_rfl) (by kernel_rfl) (fun _ _ _ h => h) (Or.inl ⟨by rfl, ?_⟩) (by assumption) ?_
      rotate_left
      · (intro w9 hSw; (try dsimp only at hSw); go_simp; all_goals with_reducible rfl)
      (try simp only [Act.put, List.setIfInBounds_toArray, List.set_cons_zero, List.set_cons_succ])
      refine wpAnyH_take (i := 2) (oi := ({ dst := some 66, op := Op.move (Operand.tmp 10), type := 31, pos := "law.go:124", after := #[{ on := 1, ground := Ground.guard }], guard := some (1, true) } : Oper)) (v := ?_) rfl (by kernel_rfl) (by kernel_rfl) (by kernel_rfl) (fun _ _ _ h => h) (Or.inl ⟨by rfl, ?_⟩) (by assumption) ?_
      rotate_left
      · (intro w9 hSw; (try dsimp only at hSw); go_simp; all_goals with_reducible rfl)
      (try simp only [Act.put, List.setIfInBounds_toArray, List.set_cons_zero, List.set_cons_succ])
      refine wpAnyH_take (i := 3) (oi := ({ dst := some 67, op := Op.binOp BinOp.eql 31 (Operand.tmp 66) (Operand.const (Value.int IntKind.i64 0)) 31, type := 4, pos := "law.go:124", after := #[{ on := 2, ground := Ground.data }, { on := 1, ground := Ground.guard }], guard := some (1, true) } : Oper)) (v := ?_) rfl (by kernel_rfl) (by kernel_rfl) (by kernel_rfl) (fun _ _ _ h => h) (Or.inl ⟨by rfl, ?_⟩) (by assumption) ?_
      rotate_left
      · (intro w9 hSw; (try dsimp only at hSw); go_simp; all_goals with_reducible rfl)
      (try simp only [Act.put, List.setIfInBounds_toArray, List.set_cons_zero, List.set_cons_succ])
      refine wpAnyH_take (i := 4) (oi := ({ dst := some 68, op := Op.pick (Operand.tmp 65) (Operand.tmp 67) (Operand.const (Value.bool false)), type := 4, pos := "law.go:124", after := #[{ on := 1, ground := Ground.data }, { on := 3, ground := Ground.data }], guard := none } : Oper)) (v := ?_) rfl (by kernel_rfl) (by kernel_rfl) (by kernel_rfl) (fun _ _ _ h => h) (Or.inl ⟨by rfl, ?_⟩) (by assumption) ?_
      rotate_left
      · (intro w9 hSw; (try dsimp only at hSw); go_simp; all_goals with_reducible rfl)
      (try simp only [Act.put, List.setIfInBounds_toArray, List.set_cons_zero, List.set_cons_succ])
      refine wpAnyH_take (i := 5) (oi := ({ dst := some 69, op := Op.move (Operand.tmp 68), type := 4, pos := "law.go:124", after := #[{ on := 4, ground := Ground.data }, { on := 1, ground := Ground.chain }], guard := none } : Oper)) (v := ?_) rfl (by kernel_rfl) (by kernel_rfl) (by kernel_rfl) (fun _ _ _ h => h) (Or.inl ⟨by rfl, ?_⟩) (by assumption) ?_
      rotate_left
      · (intro w9 hSw; (try dsimp only at hSw); go_simp; all_goals with_reducible rfl)
      (try simp only [Act.put, List.setIfInBounds_toArray, List.set_cons_zero, List.set_cons_succ])
      refine wpAnyH_take (i := 6) (oi := ({ dst := some 70, op := Op.move (Operand.tmp 9), type := 3, pos := "law.go:124", after := #[{ on := 5, ground := Ground.guard }], guard := some (5, true) } : Oper)) (v := ?_) rfl (by kernel_rfl) (by kernel_rfl) (by kernel_rfl) (fun _ _ _ h => h) (Or.inl ⟨by rfl, ?_⟩) (by assumption) ?_
      rotate_left
      · (intro w9 hSw; (try dsimp only at hSw); go_simp; all_goals with_reducible rfl)
      (try simp only [Act.put, List.setIfInBounds_toArray, List.set_cons_zero, List.set_cons_succ])
      refine wpAnyH_take (i := 7) (oi := ({ dst := some 71, op := Op.move (Operand.tmp 0), type := 3, pos := "law.go:124", after := #[{ on := 5, ground := Ground.guard }], guard := some (5, true) } : Oper)) (v := ?_) rfl (by kernel_rfl) (by kernel_rfl) (by kernel_rfl) (fun _ _ _ h => h) (Or.inl ⟨by rfl, ?_⟩) (by assumption) ?_
      rotate_left
      · (intro w9 hSw; (try dsimp only at hSw); go_simp; all_goals with_reducible rfl)
      (try simp only [Act.put, List.setIfInBounds_toArray, List.set_cons_zero, List.set_cons_succ])
      refine wpAnyH_take (i := 8) (oi := ({ dst := some 72, op := Op.binOp BinOp.eql 3 (Operand.tmp 70) (Operand.tmp 71) 3, type := 4, pos := "law.go:124", after := #[{ on := 6, ground := Ground.data }, { on := 7, ground := Ground.data }, { on := 5, ground := Ground.guard }], guard := some (5, true) } : Oper)) (v := ?_) rfl (by kernel_rfl) (by kernel_rfl) (by kernel_rfl) (fun _ _ _ h => h) (Or.inl ⟨by rfl, ?_⟩) (by assumption) ?_
      rotate_left
      · (intro w9 hSw; (try dsimp only at hSw); go_simp; all_goals with_reducible rfl)
      (try simp only [Act.put, List.setIfInBounds_toArray, List.set_cons_zero, List.set_cons_succ])
      refine wpAnyH_take (i := 9) (oi := ({ dst := some 73, op := Op.pick (Operand.tmp 69) (Operand.tmp 72) (Operand.const (Value.bool false)), type := 4, pos := "law.go:124", after := #[{ on := 5, ground := Ground.data }, { on := 8, ground := Ground.data }], guard := none } : Oper)) (v := ?_) rfl (by kernel_rfl) (by kernel_rfl) (by kernel_rfl) (fun _ _ _ h => h) (Or.inl ⟨by rfl, ?_⟩) (by assumption) ?_
      rotate_left
      · (intro w9 hSw; (try dsimp only at hSw); go_simp; all_goals with_reducible rfl)
      (try simp only [Act.put, List.setIfInBounds_toArray, List.set_cons_zero, List.set_cons_succ])
      refine wpAnyH_take (i := 10) (oi := ({ dst := some 74, op := Op.move (Operand.tmp 73), type := 4, pos := "law.go:124", after := #[{ on := 9, ground := Ground.data }, { on := 5, ground := Ground.chain }], guard := none } : Oper)) (v := ?_) rfl (by kernel_rfl) (by kernel_rfl) (by kernel_rfl) (fun _ _ _ h => h) (Or.inl ⟨by rfl, ?_⟩) (by assumption) ?_
      rotate_left
      · (intro w9 hSw; (try dsimp only at hSw); go_simp; all_goals with_reducible rfl)
      (try simp only [Act.put, List.setIfInBounds_toArray, List.set_cons_zero, List.set_cons_succ])
      refine wpAnyH_take (i := 11) (oi := ({ dst := some 75, op := Op.load 30 (Operand.tmp 11), type := 30, pos := "law.go:124", after := #[{ on := 10, ground := Ground.guard }], guard := some (10, true) } : Oper)) (v := ?_) rfl (by kernel_rfl) (by kernel_rfl) (by kernel_rfl) (fun _ _ _ h => h) (Or.inl ⟨by rfl, ?_⟩) (by assumption) ?_
      rotate_left
      · (intro w9 hSw; (try dsimp only at hSw); go_simp; all_goals with_reducible rfl)
      (try simp only [Act.put, List.setIfInBounds_toArray, List.set_cons_zero, List.set_cons_succ])
      refine wpAnyH_take (i := 13) (oi := ({ dst := some 77, op := Op.move (Operand.tmp 0), type := 3, pos := "law.go:124", after := #[{ on := 10, ground := Ground.guard }], guard := some (10, true) } : Oper)) (v := ?_) rfl (by kernel_rfl) (by kernel_rfl) (by kernel_rfl) (fun _ _ _ h => h) (Or.inl ⟨by rfl, ?_⟩) (by assumption) ?_
      rotate_left
      · (intro w9 hSw; (try dsimp only at hSw); go_simp; all_goals with_reducible rfl)
      (try simp only [Act.put, List.setIfInBounds_toArray, List.set_cons_zero, List.set_cons_succ])
      refine wpAnyH_ready (rs := [12]) (by kernel_rfl) (by simp) ?_
      refine AllReadyH.cons (o := ({ dst := some 76, op := Op.call { callee := Callee.value (Operand.func 22), args := #[Operand.const (Value.int IntKind.i64 1)], argTypes := #[2] }, type := 28, pos := "law.go:124", after := #[{ on := 10, ground := Ground.chain }, { on := 10, ground := Ground.guard }], guard := some (10, true) } : Oper)) rfl (fun K hK => ?_) AllReadyH.nil
      go_simp
      with_reducible refine (ZOf_any 1 (by omega) (by omega)).mono ?_
      rintro e v8 ⟨A2, n2, c2, rfl, za, hb1⟩
      replace hb1 := undrew hb1
      replace x_d := x_d.keep hb1
      replace hT := hT.keep hb1
      replace z_d := z_d.keep hb1
      replace hb := bthen hb hb1
      clear hb1
      replace q_d0 := x_d.c0; replace q_d1 := x_d.c1; replace f_d0 := x_d.fr 0; replace f_d1 := x_d.fr 1; replace q_d2 := x_d.c2; replace f_d2 := x_d.fr 2
      (try go_wp2_with fail)
      refine hK.out _ _ (by exact ⟨x_d.c0, x_d.c1, x_d.c2⟩) (fun hHeld => ?_)
      clear hK K
      (try simp only [Act.put, List.setIfInBounds_toArray, List.set_cons_zero, List.set_cons_succ])
      refine wpAnyH_ready (rs := [14]) (by kernel_rfl) (by simp) ?_
      refine AllReadyH.cons (o := ({ dst := some 78, op := Op.call { callee := Callee.value (Operand.func 21), args := #[Operand.tmp 76, Operand.tmp 77], argTypes := #[28, 3] }, type := 30, pos := "law.go:124", after := #[{ on := 12, ground := Ground.data }, { on := 13, ground := Ground.data }, { on := 12, ground := Ground.chain }, { on := 10, ground := Ground.guard }], guard := some (10, true) } : Oper)) rfl (fun K hK => ?_) AllReadyH.nil
      go_simp
      with_reducible refine (DOf_any za.zr hT 2 (by omega) (by omega)).mono ?_
      rintro e v9 ⟨A3, n3, c3, rfl, zb, hb1⟩
      replace x_d := x_d.keep hb1
      replace hT := hT.keep hb1
      replace z_d := z_d.keep hb1
      replace za := za.keep hb1
      replace hb := bthen hb hb1
      clear hb1
      replace q_d0 := x_d.c0; replace q_d1 := x_d.c1; replace f_d0 := x_d.fr 0; replace f_d1 := x_d.fr 1; replace q_d2 := x_d.c2; replace f_d2 := x_d.fr 2
      rw [HOF.out.1] at zb
      rw [HOF.out.1, HOF.out.2]
      (try go_wp2_with fail)
      refine hK.out _ _ (by exact ⟨x_d.c0, x_d.c1, x_d.c2⟩) (fun hHeld => ?_)
      clear hK K
      (try simp only [Act.put, List.setIfInBounds_toArray, List.set_cons_zero, List.set_cons_succ])
      refine wpAnyH_ready (rs := [15]) (by kernel_rfl) (by simp) ?_
      refine AllReadyH.cons (o := ({ dst := some 79, op := Op.call { callee := Callee.value (Operand.func 20), args := #[Operand.tmp 75, Operand.tmp 78], argTypes := #[30, 30] }, type := 3, pos := "law.go:124", after := #[{ on := 11, ground := Ground.data }, { on := 14, ground := Ground.data }, { on := 14, ground := Ground.chain }, { on := 10, ground := Ground.guard }], guard := some (10, true) } : Oper)) rfl (fun K hK => ?_) AllReadyH.nil
      go_simp
      with_reducible refine (DCmp_any z_d.zr zb.zr (by omega) (by omega)).mono ?_
      rintro e v10 ⟨rfl, hb1⟩
      replace x_d := x_d.keep hb1
      replace hT := hT.keep hb1
      replace z_d := z_d.keep hb1
      replace za := za.keep hb1
      replace zb := zb.keep hb1
      replace hb := bthen hb hb1
      clear hb1
      replace q_d0 := x_d.c0; replace q_d1 := x_d.c1; replace f_d0 := x_d.fr 0; replace f_d1 := x_d.fr 1; replace q_d2 := x_d.c2; replace f_d2 := x_d.fr 2
      rw [HCM.out]
      (try go_wp2_with fail)
      refine hK.out _ _ (by exact ⟨x_d.c0, x_d.c1, x_d.c2⟩) (fun hHeld => ?_)
      clear hK K
      (try simp only [Act.put, List.setIfInBounds_toArray, List.set_cons_zero, List.set_cons_succ])
      refine wpAnyH_take (i := 16) (oi := ({ dst := some 80, op := Op.binOp BinOp.eql 3 (Operand.tmp 79) (Operand.const (Value.int IntKind.i64 0)) 3, type := 4, pos := "law.go:124", after := #[{ on := 15, ground := Ground.data }, { on := 10, ground := Ground.guard }], guard := some (10, true) } : Oper)) (v := ?_) rfl (by kernel_rfl) (by kernel_rfl) (by kernel_rfl) (fun _ _ _ h => h) (Or.inl ⟨by rfl, ?_⟩) (by assumption) ?_
      rotate_left
      · (intro w9 hSw; (try dsimp only at hSw); go_simp; all_goals with_reducible rfl)
      (try simp only [Act.put, List.setIfInBounds_toArray, List.set_cons_zero, List.set_cons_succ])
      refine wpAnyH_take (i := 17) (oi := ({ dst := some 81, op := Op.pick (Operand.tmp 74) (Operand.tmp 80) (Operand.const (Value.bool false)), type := 4, pos := "law.go:124", after := #[{ on := 10, ground := Ground.data }, { on := 16, ground := Ground.data }], guard := none } : Oper)) (v := ?_) rfl (by kernel_rfl) (by kernel_rfl) (by kernel_rfl) (fun _ _ _ h => h) (Or.inl ⟨by rfl, ?_⟩) (by assumption) ?_
      rotate_left
      · (intro w9 hSw; (try dsimp only at hSw); go_simp; all_goals with_reducible rfl)
      (try simp only [Act.put, List.setIfInBounds_toArray, List.set_cons_zero, List.set_cons_succ])
      refine wpAnyH_take (i := 18) (oi := ({ dst := some 82, op := Op.move (Operand.tmp 81), type := 4, pos := "law.go:124", after := #[{ on := 17, ground := Ground.data }, { on := 15, ground := Ground.chain }], guard := none } : Oper)) (v := ?_) rfl (by kernel_rfl) (by kernel_rfl) (by kernel_rfl) (fun _ _ _ h => h) (Or.inl ⟨by rfl, ?_⟩) (by assumption) ?_
      rotate_left
      · (intro w9 hSw; (try dsimp only at hSw); go_simp; all_goals with_reducible rfl)
      (try simp only [Act.put, List.setIfInBounds_toArray, List.set_cons_zero, List.set_cons_succ])
      refine wpAnyH_take (i := 19) (oi := ({ dst := some 83, op := Op.move (Operand.tmp 14), type := 31, pos := "law.go:124", after := #[{ on := 18, ground := Ground.guard }], guard := some (18, true) } : Oper)) (v := ?_) rfl (by kernel_rfl) (by kernel_rfl) (by kernel_rfl) (fun _ _ _ h => h) (Or.inl ⟨by rfl, ?_⟩) (by assumption) ?_
      rotate_left
      · (intro w9 hSw; (try dsimp only at hSw); go_simp; all_goals with_reducible rfl)
      (try simp only [Act.put, List.setIfInBounds_toArray, List.set_cons_zero, List.set_cons_succ])
      refine wpAnyH_take (i := 20) (oi := ({ dst := some 84, op := Op.binOp BinOp.eql 31 (Operand.tmp 83) (Operand.const (Value.int IntKind.i64 0)) 31, type := 4, pos := "law.go:124", after := #[{ on := 19, ground := Ground.data }, { on := 18, ground := Ground.guard }], guard := some (18, true) } : Oper)) (v := ?_) rfl (by kernel_rfl) (by kernel_rfl) (by kernel_rfl) (fun _ _ _ h => h) (Or.inl ⟨by rfl, ?_⟩) (by assumption) ?_
      rotate_left
      · (intro w9 hSw; (try dsimp only at hSw); go_simp; all_goals with_reducible rfl)
      (try simp only [Act.put, List.setIfInBounds_toArray, List.set_cons_zero, List.set_cons_succ])
      refine wpAnyH_take (i := 21) (oi := ({ dst := some 85, op := Op.move (Operand.tmp 84), type := 4, pos := "law.go:124", after := #[{ on := 20, ground := Ground.data }, { on := 18, ground := Ground.chain }, { on := 18, ground := Ground.guard }], guard := some (18, true) } : Oper)) (v := ?_) rfl (by kernel_rfl) (by kernel_rfl) (by kernel_rfl) (fun _ _ _ h => h) (Or.inl ⟨by rfl, ?_⟩) (by assumption) ?_
      rotate_left
      · (intro w9 hSw; (try dsimp only at hSw); go_simp; all_goals with_reducible rfl)
      (try simp only [Act.put, List.setIfInBounds_toArray, List.set_cons_zero, List.set_cons_succ])
      refine wpAnyH_take (i := 22) (oi := ({ dst := some 86, op := Op.move (Operand.tmp 15), type := 3, pos := "law.go:124", after := #[{ on := 21, ground := Ground.guard }], guard := some (21, true) } : Oper)) (v := ?_) rfl (by kernel_rfl) (by kernel_rfl) (by kernel_rfl) (fun _ _ _ h => h) (Or.inl ⟨by rfl, ?_⟩) (by assumption) ?_
      rotate_left
      · (intro w9 hSw; (try dsimp only at hSw); go_simp; all_goals with_reducible rfl)
      (try simp only [Act.put, List.setIfInBounds_toArray, List.set_cons_zero, List.set_cons_succ])
      refine wpAnyH_take (i := 23) (oi := ({ dst := some 87, op := Op.move (Operand.tmp 0), type := 3, pos := "law.go:124", after := #[{ on := 21, ground := Ground.guard }], guard := some (21, true) } : Oper)) (v := ?_) rfl (by kernel_rfl) (by kernel_rfl) (by kernel_rfl) (fun _ _ _ h => h) (Or.inl ⟨by rfl, ?_⟩) (by assumption) ?_
      rotate_left
      · (intro w9 hSw; (try dsimp only at hSw); go_simp; all_goals with_reducible rfl)
      (try simp only [Act.put, List.setIfInBounds_toArray, List.set_cons_zero, List.set_cons_succ])
      refine wpAnyH_take (i := 24) (oi := ({ dst := some 88, op := Op.binOp BinOp.sub 3 (Operand.tmp 87) (Operand.const (Value.int IntKind.i64 1)) 3, type := 3, pos := "law.go:124", after := #[{ on := 23, ground := Ground.data }, { on := 21, ground := Ground.guard }], guard := some (21, true) } : Oper)) (v := ?_) rfl (by kernel_rfl) (by kernel_rfl) (by kernel_rfl) (fun _ _ _ h => h) (Or.inl ⟨by rfl, ?_⟩) (by assumption) ?_
      rotate_left
      · (intro w9 hSw; (try dsimp only at hSw); go_simp; all_goals with_reducible rfl)
      (try simp only [Act.put, List.setIfInBounds_toArray, List.set_cons_zero, List.set_cons_succ])
      refine wpAnyH_take (i := 25) (oi := ({ dst := some 89, op := Op.binOp BinOp.eql 3 (Operand.tmp 86) (Operand.tmp 88) 3, type := 4, pos := "law.go:124", after := #[{ on := 22, ground := Ground.data }, { on := 24, ground := Ground.data }, { on := 21, ground := Ground.guard }], guard := some (21, true) } : Oper)) (v := ?_) rfl (by kernel_rfl) (by kernel_rfl) (by kernel_rfl) (fun _ _ _ h => h) (Or.inl ⟨by rfl, ?_⟩) (by assumption) ?_
      rotate_left
      · (intro w9 hSw; (try dsimp only at hSw); go_simp; all_goals with_reducible rfl)
      (try simp only [Act.put, List.setIfInBounds_toArray, List.set_cons_zero, List.set_cons_succ])
      refine wpAnyH_take (i := 26) (oi := ({ dst := some 90, op := Op.pick (Operand.tmp 85) (Operand.tmp 89) (Operand.const (Value.bool false)), type := 4, pos := "law.go:124", after := #[{ on := 21, ground := Ground.data }, { on := 25, ground := Ground.data }, { on := 18, ground := Ground.guard }], guard := some (18, true) } : Oper)) (v := ?_) rfl (by kernel_rfl) (by kernel_rfl) (by kernel_rfl) (fun _ _ _ h => h) (Or.inl ⟨by rfl, ?_⟩) (by assumption) ?_
      rotate_left
      · (intro w9 hSw; (try dsimp only at hSw); go_simp; all_goals with_reducible rfl)
      (try simp only [Act.put, List.setIfInBounds_toArray, List.set_cons_zero, List.set_cons_succ])
      refine wpAnyH_take (i := 27) (oi := ({ dst := some 91, op := Op.move (Operand.tmp 90), type := 4, pos := "law.go:124", after := #[{ on := 26, ground := Ground.data }, { on := 21, ground := Ground.chain }, { on := 18, ground := Ground.guard }], guard := some (18, true) } : Oper)) (v := ?_) rfl (by kernel_rfl) (by kernel_rfl) (by kernel_rfl) (fun _ _ _ h => h) (Or.inl ⟨by rfl, ?_⟩) (by assumption) ?_
      rotate_left
      · (intro w9 hSw; (try dsimp only at hSw); go_simp; all_goals with_reducible rfl)
      (try simp only [Act.put, List.setIfInBounds_toArray, List.set_cons_zero, List.set_cons_succ])
      refine wpAnyH_take (i := 28) (oi := ({ dst := some 92, op := Op.move (Operand.tmp 14), type := 31, pos := "law.go:124", after := #[{ on := 27, ground := Ground.guard }], guard := some (27, false) } : Oper)) (v := undef) rfl (by kernel_rfl) (by kernel_rfl) (by kernel_rfl) (fun _ _ _ h => h) (Or.inr ⟨by rfl, rfl⟩) (by assumption) ?_
      (try simp only [Act.put, List.setIfInBounds_toArray, List.set_cons_zero, List.set_cons_succ])
      refine wpAnyH_take (i := 29) (oi := ({ dst := some 93, op := Op.binOp BinOp.neq 31 (Operand.tmp 92) (Operand.const (Value.int IntKind.i64 0)) 31, type := 4, pos := "law.go:124", after := #[{ on := 28, ground := Ground.data }, { on := 27, ground := Ground.guard }], guard := some (27, false) } : Oper)) (v := undef) rfl (by kernel_rfl) (by kernel_rfl) (by kernel_rfl) (fun _ _ _ h => h) (Or.inr ⟨by rfl, rfl⟩) (by assumption) ?_
      (try simp only [Act.put, List.setIfInBounds_toArray, List.set_cons_zero, List.set_cons_succ])
      refine wpAnyH_take (i := 30) (oi := ({ dst := some 94, op := Op.move (Operand.tmp 93), type := 4, pos := "law.go:124", after := #[{ on := 29, ground := Ground.data }, { on := 27, ground := Ground.chain }, { on := 27, ground := Ground.guard }], guard := some (27, false) } : Oper)) (v := undef) rfl (by kernel_rfl) (by kernel_rfl) (by kernel_rfl) (fun _ _ _ h => h) (Or.inr ⟨by rfl, rfl⟩) (by assumption) ?_
      (try simp only [Act.put, List.setIfInBounds_toArray, List.set_cons_zero, List.set_cons_succ])
      refine wpAnyH_take (i := 31) (oi := ({ dst := some 95, op := Op.move (Operand.tmp 0), type := 3, pos := "law.go:124", after := #[{ on := 30, ground := Ground.guard }], guard := some (30, true) } : Oper)) (v := undef) rfl (by kernel_rfl) (by kernel_rfl) (by kernel_rfl) (fun _ _ _ h => h) (Or.inr ⟨by rfl, rfl⟩) (by assumption) ?_
      (try simp only [Act.put, List.setIfInBounds_toArray, List.set_cons_zero, List.set_cons_succ])
      refine wpAnyH_take (i := 32) (oi := ({ dst := some 96, op := Op.binOp BinOp.eql 3 (Operand.tmp 95) (Operand.const (Value.int IntKind.i64 (-1022))) 3, type := 4, pos := "law.go:124", after := #[{ on := 31, ground := Ground.data }, { on := 30, ground := Ground.guard }], guard := some (30, true) } : Oper)) (v := undef) rfl (by kernel_rfl) (by kernel_rfl) (by kernel_rfl) (fun _ _ _ h => h) (Or.inr ⟨by rfl, rfl⟩) (by assumption) ?_
      (try simp only [Act.put, List.setIfInBounds_toArray, List.set_cons_zero, List.set_cons_succ])
      refine wpAnyH_take (i := 33) (oi := ({ dst := some 97, op := Op.pick (Operand.tmp 94) (Operand.tmp 96) (Operand.const (Value.bool false)), type := 4, pos := "law.go:124", after := #[{ on := 30, ground := Ground.data }, { on := 32, ground := Ground.data }, { on := 27, ground := Ground.guard }], guard := some (27, false) } : Oper)) (v := undef) rfl (by kernel_rfl) (by kernel_rfl) (by kernel_rfl) (fun _ _ _ h => h) (Or.inr ⟨by rfl, rfl⟩) (by assumption) ?_
      (try simp only [Act.put, List.setIfInBounds_toArray, List.set_cons_zero, List.set_cons_succ])
      refine wpAnyH_take (i := 34) (oi := ({ dst := some 98, op := Op.pick (Operand.tmp 91) (Operand.const (Value.bool true)) (Operand.tmp 97), type := 4, pos := "law.go:124", after := #[{ on := 27, ground := Ground.data }, { on := 33, ground := Ground.data }, { on := 18, ground := Ground.guard }], guard := some (18, true) } : Oper)) (v := ?_) rfl (by kernel_rfl) (by kernel_rfl) (by kernel_rfl) (fun _ _ _ h => h) (Or.inl ⟨by rfl, ?_⟩) (by assumption) ?_
      rotate_left
      · (intro w9 hSw; (try dsimp only at hSw); go_simp; all_goals with_reducible rfl)
      (try simp only [Act.put, List.setIfInBounds_toArray, List.set_cons_zero, List.set_cons_succ])
      refine wpAnyH_take (i := 35) (oi := ({ dst := some 99, op := Op.pick (Operand.tmp 82) (Operand.tmp 98) (Operand.const (Value.bool false)), type := 4, pos := "law.go:124", after := #[{ on := 18, ground := Ground.data }, { on := 34, ground := Ground.data }], guard := none } : Oper)) (v := ?_) rfl (by kernel_rfl) (by kernel_rfl) (by kernel_rfl) (fun _ _ _ h => h) (Or.inl ⟨by rfl, ?_⟩) (by assumption) ?_
      rotate_left
      · (intro w9 hSw; (try dsimp only at hSw); go_simp; all_goals with_reducible rfl)
      (try simp only [Act.put, List.setIfInBounds_toArray, List.set_cons_zero, List.set_cons_succ])
      refine wpAnyH_take (i := 36) (oi := ({ dst := some 4, op := Op.assign (Operand.tmp 99), type := 4, pos := "law.go:124", after := #[{ on := 35, ground := Ground.data }, { on := 30, ground := Ground.chain }, { on := 0, ground := Ground.phase }, { on := 1, ground := Ground.phase }, { on := 2, ground := Ground.phase }, { on := 3, ground := Ground.phase }, { on := 4, ground := Ground.phase }, { on := 5, ground := Ground.phase }, { on := 6, ground := Ground.phase }, { on := 7, ground := Ground.phase }, { on := 8, ground := Ground.phase }, { on := 9, ground := Ground.phase }, { on := 10, ground := Ground.phase }, { on := 11, ground := Ground.phase }, { on := 12, ground := Ground.phase }, { on := 13, ground := Ground.phase }, { on := 14, ground := Ground.phase }, { on := 15, ground := Ground.phase }, { on := 16, ground := Ground.phase }, { on := 17, ground := Ground.phase }, { on := 18, ground := Ground.phase }, { on := 19, ground := Ground.phase }, { on := 20, ground := Ground.phase }, { on := 21, ground := Ground.phase }, { on := 22, ground := Ground.phase }, { on := 23, ground := Ground.phase }, { on := 24, ground := Ground.phase }, { on := 25, ground := Ground.phase }, { on := 26, ground := Ground.phase }, { on := 27, ground := Ground.phase }, { on := 28, ground := Ground.phase }, { on := 29, ground := Ground.phase }, { on := 30, ground := Ground.phase }, { on := 31, ground := Ground.phase }, { on := 32, ground := Ground.phase }, { on := 33, ground := Ground.phase }, { on := 34, ground := Ground.phase }, { on := 35, ground := Ground.phase }], guard := none } : Oper)) (v := ?_) rfl (by kernel_rfl) (by kernel_rfl) (by kernel_rfl) (fun _ _ _ h => h) (Or.inl ⟨by rfl, ?_⟩) (by assumption) ?_
      rotate_left
      · (intro w9 hSw; (try dsimp only at hSw); go_simp; all_goals with_reducible rfl)
      (try simp only [Act.put, List.setIfInBounds_toArray, List.set_cons_zero, List.set_cons_succ])
      refine wpAnyH_done (by kernel_rfl) ?_ _
      go_wp2
      go_ret
      exact ⟨rfl, hb⟩
  rcases (show e < -1022 ∨ (¬ e < -1022 ∧ 1023 < e) by omega) with h1 | ⟨h1, h2⟩
  · skip
    have hb := Below.refl w.heap.size w
    go_enter Tryd.func7, Tryd.ntmps7
    go_wp2_with fail
    with_reducible refine (Bshown_any hT).mono ?_
    rintro e v1 ⟨rfl, hb1⟩
    replace hT := hT.keep hb1
    replace hb := bthen hb hb1
    clear hb1
    go_wp2_with fail
    with_reducible refine (First_no e hr).mono ?_
    rintro e v2 ⟨rfl, hb1⟩
    replace hT := hT.keep hb1
    replace hb := bthen hb hb1
    clear hb1
    go_wp2
    go_ret
    exact ⟨rfl, hb⟩
  · skip
    have hb := Below.refl w.heap.size w
    go_enter Tryd.func7, Tryd.ntmps7
    go_wp2_with fail
    with_reducible refine (Bshown_any hT).mono ?_
    rintro e v1 ⟨rfl, hb1⟩
    replace hT := hT.keep hb1
    replace hb := bthen hb hb1
    clear hb1
    go_wp2_with fail
    with_reducible refine (First_no e hr).mono ?_
    rintro e v2 ⟨rfl, hb1⟩
    replace hT := hT.keep hb1
    replace hb := bthen hb hb1
    clear hb1
    go_wp2
    go_ret
    exact ⟨rfl, hb⟩

end Go.Proofs.YthbodamihiddhaaDoor
