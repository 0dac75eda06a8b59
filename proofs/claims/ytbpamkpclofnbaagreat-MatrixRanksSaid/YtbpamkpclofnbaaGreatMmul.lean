/-
  matrix: Mul, Turn.
-/
import Derived.Test.YtbpamkpclofnbaaGreatMbuild
namespace Go.Proofs.YtbpamkpclofnbaaGreat
open Go.RowKit
open MP.Se (nf co)
set_option linter.unusedVariables false
set_option maxRecDepth 100000

/-- What the loop of a product's number keeps. -/
def MuN (w : World) (gb ga i k : Nat) (B A : Option Addr) (nb cb na ca : Nat) (M N : List (List Int)) (J J2 j : Nat) (wr : World) : Prop :=
  Vc wr gb 0 (.slice B nb cb) ∧ Vc wr ga 0 (.slice A na ca) ∧ Me wr w.heap.size A na ca M J ∧ Me wr w.heap.size B nb cb N J2 ∧ Bx wr w.heap.size false none 0 0 ∧
    (∃ A' n' c', Bx wr (w.heap.size + 1) (ngB (MD.sm j fun t => mx M i t * mx N t k)) A' n' c' ∧ Zn wr A' n' c' (MD.sm j fun t => mx M i t * mx N t k) (J + J2 + j)) ∧ Below w.heap.size w wr
set_option maxHeartbeats 4000000 in
theorem MulC_any {w : World} {gb ga na ca nb cb i k q J J2 : Nat} {A B : Option Addr} {M N : List (List Int)} (xa : Vc w ga 0 (.slice A na ca)) (xb : Vc w gb 0 (.slice B nb cb)) (h : Me w w.heap.size A na ca M J) (h2 : Me w w.heap.size B nb cb N J2)
    (hM : Rt M na nb) (hN : Rt N nb q) (hi : i < na) (hk : k < q) (hb9 : nb ≤ 1000) (hJ : J + J2 + nb ≤ 900000) :
    Calls Tryz.prog 82 #[.int .i64 (i : Int), .int .i64 (k : Int), .pointer (some ⟨gb, 0, none⟩), .pointer (some ⟨ga, 0, none⟩)] w (OutZ w (MD.mul nb (mx M) (mx N) i k) (J + J2 + nb)) := by
  have hnab := h.len
  have H1 : Hid (∀ j (hj : j < nb), ∃ hi' : i < M.length, ∃ hj' : j < M[i].length, M[i][j] = mx M i j) := Lib.hid fun j hj => by
    have h1 : i < M.length := by rw [hM.1]; exact hi
    have h3 : j < M[i].length := by rw [hM.2.2.2 i h1]; exact hj
    exact ⟨h1, h3, (mx_at h1 h3).symm⟩
  have H2 : Hid (∀ j (hj : j < nb), ∃ hi' : j < N.length, ∃ hj' : k < N[j].length, N[j][k] = mx N j k) := Lib.hid fun j hj => by
    have h1 : j < N.length := by rw [hN.1]; exact hj
    have h3 : k < N[j].length := by rw [hN.2.2.2 j h1]; exact hk
    exact ⟨h1, h3, (mx_at h1 h3).symm⟩
  clear hnab
  have hga := xa.lt; have hgb := xb.lt
  go_enter Tryz.func82, Tryz.ntmps82
  go_upto_region 2 with fail
  refine al2 fun v1 hb x_r x_s => ?_
  replace x_r := Bx.of x_r; replace x_s := Bx.of x_s
  obtain ⟨xa, xb, h, h2⟩ := mv4 hb xa xb h h2
  have q_r := x_r.al
  have q_s := x_s.al
  clear q_r q_s
  have hr0 : MuN w gb ga i k B A nb cb na ca M N J J2 0 v1 := ⟨xb, xa, h, h2, x_r, ⟨none, 0, 0, x_s, Zn.zero _ _⟩, hb⟩
  have q_b := xb.al
  clear xa h h2 x_r x_s hb
  go_wp2_with fail
  clear xb q_b
  go_loopw [11] (fun kv wr => ∃ j : Nat, j ≤ nb ∧ kv = .int .i64 (j : Int) ∧ MuN w gb ga i k B A nb cb na ca M N J J2 j wr) (fun kv _ => nb - (intOf kv).toNat)
  case atStart => exact ⟨0, by omega, rfl, hr0⟩
  case round =>
    clear hr0
    obtain ⟨j, hj, rfl, x_b, x_a, h, h2, x_r, ⟨A4, n4, c4, x_s, z4⟩, hb⟩ := hrel
    rcases (show nb = j ∨ j < nb by omega) with hjn | hjn
    · subst hjn
      rw [show (MD.sm nb fun t => mx M i t * mx N t k) = MD.mul nb (mx M) (mx N) i k from rfl] at x_s z4
      have q_r := x_r.al
      have q_s := x_s.al
      have q_a := x_a.al
      have q_b := x_b.al
      go_wp2
      clear q_r q_s q_a q_b
      refine x_r.st fun v2 hs hx => ?_
      obtain ⟨x_s, x_a, x_b, h, h2, z4, hb⟩ := ms7 hs ⟨by omega, by omega, by omega, by omega, by omega, trivial, by omega⟩ x_s x_a x_b h h2 z4 hb
      replace x_r := hx; clear hx hs
      have q_r := x_r.al
      have q_s := x_s.al
      have q_a := x_a.al
      have q_b := x_b.al
      skip
      refine bodyPost_ret (v := .agg #[.bool (ngB (MD.mul nb (mx M) (mx N) i k)), .slice A4 n4 c4]) (by simp [results, Tryz.results82, go_sem, q_r]) rfl ?_
      exact ⟨_, _, _, rfl, z4, hb⟩
    · obtain ⟨hi1, hj1, he⟩ := H1.out j hjn
      obtain ⟨hi2, hj2, hf⟩ := H2.out j hjn
      obtain ⟨d, o, A5, m5, c5, rfl, hd, x_i, p_i⟩ := h.row hi
      obtain ⟨d2, o2, A6, m6, c6, rfl, hd2, x_j, p_j⟩ := h2.row hjn
      have hm5 : j < m5 := by rw [← p_i.2.len]; exact hj1
      have hm6 : k < m6 := by rw [← p_j.2.len]; exact hj2
      have hm5b := p_i.2.big; have hm6b := p_j.2.big
      obtain ⟨d3, o3, b7, A7, n7, c7, rfl, hd3, x_e, z7⟩ := p_i.ec hm5
      obtain ⟨d4, o4, b8, A8, n8, c8, rfl, hd4, x_f, z8⟩ := p_j.ec hm6
      rw [he] at z7; rw [hf] at z8
      have HS : Hid ((MD.sm j fun t => mx M i t * mx N t k) + mx M i j * mx N j k = MD.sm (j + 1) fun t => mx M i t * mx N t k) := Lib.hid rfl
      obtain ⟨S2, hS2⟩ : ∃ S, (MD.sm (j + 1) fun t => mx M i t * mx N t k) = S := ⟨_, rfl⟩
      rw [hS2] at HS
      have HS2 := Lib.hid hS2; clear hS2 he hf p_i p_j hi1 hj1 hi2 hj2
      generalize (MD.sm j fun t => mx M i t * mx N t k) = S at *
      generalize mx M i j = Y at *
      generalize mx N j k = Z at *
      have hKb : J + J2 + j + 1 ≤ 900000 := by omega
      have q_r := x_r.al
      have q_s := x_s.al
      have q_a := x_a.al
      have q_b := x_b.al
      have q_i := x_i.al
      have q_j := x_j.al
      have q_e := x_e.al
      have q_f := x_f.al
      go_upto_region 5 with fail
      refine wp_region_held_drew (S := fun w' => w'.cell? ⟨ga, 0, none⟩ = some (.slice (some ⟨d, o, none⟩) na ca) ∧ w'.cell? ⟨gb, 0, none⟩ = some (.slice (some ⟨d2, o2, none⟩) nb cb) ∧ w'.cell? ⟨d, o + i, none⟩ = some (.slice (some ⟨d3, o3, none⟩) m5 c5) ∧ w'.cell? ⟨d2, o2 + j, none⟩ = some (.slice (some ⟨d4, o4, none⟩) m6 c6) ∧ w'.cell? ⟨d3, o3 + j * 2, none⟩ = some (.bool b7) ∧ w'.cell? ⟨d3, o3 + j * 2 + 1, none⟩ = some (.slice A7 n7 c7) ∧ w'.cell? ⟨d4, o4 + k * 2, none⟩ = some (.bool b8) ∧ w'.cell? ⟨d4, o4 + k * 2 + 1, none⟩ = some (.slice A8 n8 c8)) (by kernel_rfl) (by exact ⟨x_a.c0, x_b.c0, x_i.c0, x_j.c0, x_e.c0, x_e.c1, x_f.c0, x_f.c1⟩) (fun hHeld => ?_)
      refine wpAnyH_take (i := 1) (oi := ({ dst := some 15, op := Op.load 35 (Operand.tmp 3), type := 35, pos := "matrix.go:37", after := #[], guard := none } : Oper)) (v := ?_) rfl (by kernel_rfl) (by kernel_rfl) (by kernel_rfl) (fun _ _ _ h => h) (Or.inl ⟨by rfl, ?_⟩) (by assumption) ?_
      rotate_left
      · (intro w9 hSw; (try dsimp only at hSw); go_simp; all_goals with_reducible rfl)
      (try simp only [Act.put, List.setIfInBounds_toArray, List.set_cons_zero, List.set_cons_succ])
      refine wpAnyH_take (i := 2) (oi := ({ dst := some 16, op := Op.move (Operand.tmp 0), type := 3, pos := "matrix.go:37", after := #[], guard := none } : Oper)) (v := ?_) rfl (by kernel_rfl) (by kernel_rfl) (by kernel_rfl) (fun _ _ _ h => h) (Or.inl ⟨by rfl, ?_⟩) (by assumption) ?_
      rotate_left
      · (intro w9 hSw; (try dsimp only at hSw); go_simp; all_goals with_reducible rfl)
      (try simp only [Act.put, List.setIfInBounds_toArray, List.set_cons_zero, List.set_cons_succ])
      refine wpAnyH_take (i := 3) (oi := ({ dst := some 17, op := Op.indexAddr 35 (Operand.tmp 15) (Operand.tmp 16), type := 0, pos := "matrix.go:37", after := #[{ on := 1, ground := Ground.data }, { on := 2, ground := Ground.data }], guard := none } : Oper)) (v := ?_) rfl (by kernel_rfl) (by kernel_rfl) (by kernel_rfl) (fun _ _ _ h => h) (Or.inl ⟨by rfl, ?_⟩) (by assumption) ?_
      rotate_left
      · (intro w9 hSw; (try dsimp only at hSw); go_simp; all_goals with_reducible rfl)
      (try simp only [Act.put, List.setIfInBounds_toArray, List.set_cons_zero, List.set_cons_succ])
      refine wpAnyH_take (i := 4) (oi := ({ dst := some 18, op := Op.load 22 (Operand.tmp 17), type := 22, pos := "matrix.go:37", after := #[{ on := 3, ground := Ground.data }], guard := none } : Oper)) (v := ?_) rfl (by kernel_rfl) (by kernel_rfl) (by kernel_rfl) (fun _ _ _ h => h) (Or.inl ⟨by rfl, ?_⟩) (by assumption) ?_
      rotate_left
      · (intro w9 hSw; (try dsimp only at hSw); go_simp; all_goals with_reducible rfl)
      (try simp only [Act.put, List.setIfInBounds_toArray, List.set_cons_zero, List.set_cons_succ])
      refine wpAnyH_take (i := 5) (oi := ({ dst := some 19, op := Op.move (Operand.tmp 8), type := 3, pos := "matrix.go:37", after := #[], guard := none } : Oper)) (v := ?_) rfl (by kernel_rfl) (by kernel_rfl) (by kernel_rfl) (fun _ _ _ h => h) (Or.inl ⟨by rfl, ?_⟩) (by assumption) ?_
      rotate_left
      · (intro w9 hSw; (try dsimp only at hSw); go_simp; all_goals with_reducible rfl)
      (try simp only [Act.put, List.setIfInBounds_toArray, List.set_cons_zero, List.set_cons_succ])
      refine wpAnyH_take (i := 6) (oi := ({ dst := some 20, op := Op.indexAddr 22 (Operand.tmp 18) (Operand.tmp 19), type := 0, pos := "matrix.go:37", after := #[{ on := 4, ground := Ground.data }, { on := 5, ground := Ground.data }], guard := none } : Oper)) (v := ?_) rfl (by kernel_rfl) (by kernel_rfl) (by kernel_rfl) (fun _ _ _ h => h) (Or.inl ⟨by rfl, ?_⟩) (by assumption) ?_
      rotate_left
      · (intro w9 hSw; (try dsimp only at hSw); go_simp; all_goals with_reducible rfl)
      (try simp only [Act.put, List.setIfInBounds_toArray, List.set_cons_zero, List.set_cons_succ])
      refine wpAnyH_take (i := 7) (oi := ({ dst := some 21, op := Op.load 30 (Operand.tmp 20), type := 30, pos := "matrix.go:37", after := #[{ on := 6, ground := Ground.data }], guard := none } : Oper)) (v := ?_) rfl (by kernel_rfl) (by kernel_rfl) (by kernel_rfl) (fun _ _ _ h => h) (Or.inl ⟨by rfl, ?_⟩) (by assumption) ?_
      rotate_left
      · (intro w9 hSw; (try dsimp only at hSw); go_simp; all_goals with_reducible rfl)
      (try simp only [Act.put, List.setIfInBounds_toArray, List.set_cons_zero, List.set_cons_succ])
      refine wpAnyH_take (i := 8) (oi := ({ dst := some 22, op := Op.load 35 (Operand.tmp 2), type := 35, pos := "matrix.go:37", after := #[], guard := none } : Oper)) (v := ?_) rfl (by kernel_rfl) (by kernel_rfl) (by kernel_rfl) (fun _ _ _ h => h) (Or.inl ⟨by rfl, ?_⟩) (by assumption) ?_
      rotate_left
      · (intro w9 hSw; (try dsimp only at hSw); go_simp; all_goals with_reducible rfl)
      (try simp only [Act.put, List.setIfInBounds_toArray, List.set_cons_zero, List.set_cons_succ])
      refine wpAnyH_take (i := 9) (oi := ({ dst := some 23, op := Op.move (Operand.tmp 8), type := 3, pos := "matrix.go:37", after := #[], guard := none } : Oper)) (v := ?_) rfl (by kernel_rfl) (by kernel_rfl) (by kernel_rfl) (fun _ _ _ h => h) (Or.inl ⟨by rfl, ?_⟩) (by assumption) ?_
      rotate_left
      · (intro w9 hSw; (try dsimp only at hSw); go_simp; all_goals with_reducible rfl)
      (try simp only [Act.put, List.setIfInBounds_toArray, List.set_cons_zero, List.set_cons_succ])
      refine wpAnyH_take (i := 10) (oi := ({ dst := some 24, op := Op.indexAddr 35 (Operand.tmp 22) (Operand.tmp 23), type := 0, pos := "matrix.go:37", after := #[{ on := 8, ground := Ground.data }, { on := 9, ground := Ground.data }], guard := none } : Oper)) (v := ?_) rfl (by kernel_rfl) (by kernel_rfl) (by kernel_rfl) (fun _ _ _ h => h) (Or.inl ⟨by rfl, ?_⟩) (by assumption) ?_
      rotate_left
      · (intro w9 hSw; (try dsimp only at hSw); go_simp; all_goals with_reducible rfl)
      (try simp only [Act.put, List.setIfInBounds_toArray, List.set_cons_zero, List.set_cons_succ])
      refine wpAnyH_take (i := 11) (oi := ({ dst := some 25, op := Op.load 22 (Operand.tmp 24), type := 22, pos := "matrix.go:37", after := #[{ on := 10, ground := Ground.data }], guard := none } : Oper)) (v := ?_) rfl (by kernel_rfl) (by kernel_rfl) (by kernel_rfl) (fun _ _ _ h => h) (Or.inl ⟨by rfl, ?_⟩) (by assumption) ?_
      rotate_left
      · (intro w9 hSw; (try dsimp only at hSw); go_simp; all_goals with_reducible rfl)
      (try simp only [Act.put, List.setIfInBounds_toArray, List.set_cons_zero, List.set_cons_succ])
      refine wpAnyH_take (i := 12) (oi := ({ dst := some 26, op := Op.move (Operand.tmp 1), type := 3, pos := "matrix.go:37", after := #[], guard := none } : Oper)) (v := ?_) rfl (by kernel_rfl) (by kernel_rfl) (by kernel_rfl) (fun _ _ _ h => h) (Or.inl ⟨by rfl, ?_⟩) (by assumption) ?_
      rotate_left
      · (intro w9 hSw; (try dsimp only at hSw); go_simp; all_goals with_reducible rfl)
      (try simp only [Act.put, List.setIfInBounds_toArray, List.set_cons_zero, List.set_cons_succ])
      refine wpAnyH_take (i := 13) (oi := ({ dst := some 27, op := Op.indexAddr 22 (Operand.tmp 25) (Operand.tmp 26), type := 0, pos := "matrix.go:37", after := #[{ on := 11, ground := Ground.data }, { on := 12, ground := Ground.data }], guard := none } : Oper)) (v := ?_) rfl (by kernel_rfl) (by kernel_rfl) (by kernel_rfl) (fun _ _ _ h => h) (Or.inl ⟨by rfl, ?_⟩) (by assumption) ?_
      rotate_left
      · (intro w9 hSw; (try dsimp only at hSw); go_simp; all_goals with_reducible rfl)
      (try simp only [Act.put, List.setIfInBounds_toArray, List.set_cons_zero, List.set_cons_succ])
      refine wpAnyH_take (i := 14) (oi := ({ dst := some 28, op := Op.load 30 (Operand.tmp 27), type := 30, pos := "matrix.go:37", after := #[{ on := 13, ground := Ground.data }], guard := none } : Oper)) (v := ?_) rfl (by kernel_rfl) (by kernel_rfl) (by kernel_rfl) (fun _ _ _ h => h) (Or.inl ⟨by rfl, ?_⟩) (by assumption) ?_
      rotate_left
      · (intro w9 hSw; (try dsimp only at hSw); go_simp; all_goals with_reducible rfl)
      (try simp only [Act.put, List.setIfInBounds_toArray, List.set_cons_zero, List.set_cons_succ])
      refine wpAnyH_ready (rs := [0, 15]) (by kernel_rfl) (by simp) ?_
      refine AllReadyH.cons (o := ({ dst := some 14, op := Op.load 30 (Operand.tmp 7), type := 30, pos := "matrix.go:37", after := #[], guard := none } : Oper)) rfl (fun K hK => ?_) (AllReadyH.cons (o := ({ dst := some 29, op := Op.call { callee := Callee.value (Operand.func 84), args := #[Operand.tmp 21, Operand.tmp 28], argTypes := #[30, 30] }, type := 30, pos := "matrix.go:37", after := #[{ on := 7, ground := Ground.data }, { on := 14, ground := Ground.data }], guard := none } : Oper)) rfl (fun K hK => ?_) AllReadyH.nil)
      focus
        go_simp
        refine hK.out _ _ (by exact ⟨x_a.c0, x_b.c0, x_i.c0, x_j.c0, x_e.c0, x_e.c1, x_f.c0, x_f.c1⟩) (fun hHeld => ?_)
        clear hK K
        (try simp only [Act.put, List.setIfInBounds_toArray, List.set_cons_zero, List.set_cons_succ])
        refine wpAnyH_ready (rs := [15]) (by kernel_rfl) (by simp) ?_
        refine AllReadyH.cons (o := ({ dst := some 29, op := Op.call { callee := Callee.value (Operand.func 84), args := #[Operand.tmp 21, Operand.tmp 28], argTypes := #[30, 30] }, type := 30, pos := "matrix.go:37", after := #[{ on := 7, ground := Ground.data }, { on := 14, ground := Ground.data }], guard := none } : Oper)) rfl (fun K hK => ?_) AllReadyH.nil
        go_simp
        with_reducible refine (ZMul_any z7.drw z8.drw (J + J2) (by omega) (by omega)).mono ?_
        rintro e v2 ⟨A9, n9, c9, rfl, z9, hb1⟩
        replace hb1 := undrew hb1
        obtain ⟨x_r, x_s, x_a, x_b, x_i, x_j, x_e, x_f, h⟩ := mv9 hb1 x_r x_s x_a x_b x_i x_j x_e x_f h
        obtain ⟨h2, z4, z7, z8, hb⟩ := mv5 hb1 h2 z4 z7 z8 hb
        clear hb1
        replace q_r := x_r.al
        replace q_s := x_s.al
        replace q_a := x_a.al
        replace q_b := x_b.al
        replace q_i := x_i.al
        replace q_j := x_j.al
        replace q_e := x_e.al
        replace q_f := x_f.al
        (try go_wp2_with fail)
        refine hK.out _ _ (by exact ⟨x_a.c0, x_b.c0, x_i.c0, x_j.c0, x_e.c0, x_e.c1, x_f.c0, x_f.c1⟩) (fun hHeld => ?_)
        clear hK K
        (try simp only [Act.put, List.setIfInBounds_toArray, List.set_cons_zero, List.set_cons_succ])
        refine wpAnyH_ready (rs := [16]) (by kernel_rfl) (by simp) ?_
        refine AllReadyH.cons (o := ({ dst := some 30, op := Op.call { callee := Callee.value (Operand.func 83), args := #[Operand.tmp 14, Operand.tmp 29], argTypes := #[30, 30] }, type := 30, pos := "matrix.go:37", after := #[{ on := 0, ground := Ground.data }, { on := 15, ground := Ground.data }, { on := 15, ground := Ground.chain }], guard := none } : Oper)) rfl (fun K hK => ?_) AllReadyH.nil
        go_simp
        with_reducible refine (ZAdd_any z4.zr z9.zr (J + J2 + j + 1) (by omega) (by omega) (by omega)).mono ?_
        rintro e v3 ⟨A10, n10, c10, rfl, z10, hb1⟩
        obtain ⟨x_r, x_s, x_a, x_b, x_i, x_j, x_e, x_f, h⟩ := mv9 hb1 x_r x_s x_a x_b x_i x_j x_e x_f h
        obtain ⟨h2, z4, z7, z8, z9, hb⟩ := mv6 hb1 h2 z4 z7 z8 z9 hb
        clear hb1
        replace q_r := x_r.al
        replace q_s := x_s.al
        replace q_a := x_a.al
        replace q_b := x_b.al
        replace q_i := x_i.al
        replace q_j := x_j.al
        replace q_e := x_e.al
        replace q_f := x_f.al
        rw [HS.out] at z10 ⊢
        (try go_wp2_with fail)
        refine hK.out _ _ (by exact ⟨x_a.c0, x_b.c0, x_i.c0, x_j.c0, x_e.c0, x_e.c1, x_f.c0, x_f.c1⟩) (fun hHeld => ?_)
        clear hK K
        (try simp only [Act.put, List.setIfInBounds_toArray, List.set_cons_zero, List.set_cons_succ])
        refine wpAnyH_ready (rs := [17]) (by kernel_rfl) (by simp) ?_
        refine AllReadyH.cons (o := ({ dst := none, op := Op.store 30 (Operand.tmp 7) (Operand.tmp 30), type := 0, pos := "matrix.go:37", after := #[{ on := 16, ground := Ground.data }, { on := 16, ground := Ground.chain }, { on := 0, ground := Ground.phase }, { on := 1, ground := Ground.phase }, { on := 2, ground := Ground.phase }, { on := 3, ground := Ground.phase }, { on := 4, ground := Ground.phase }, { on := 5, ground := Ground.phase }, { on := 6, ground := Ground.phase }, { on := 7, ground := Ground.phase }, { on := 8, ground := Ground.phase }, { on := 9, ground := Ground.phase }, { on := 10, ground := Ground.phase }, { on := 11, ground := Ground.phase }, { on := 12, ground := Ground.phase }, { on := 13, ground := Ground.phase }, { on := 14, ground := Ground.phase }, { on := 15, ground := Ground.phase }, { on := 16, ground := Ground.phase }], guard := none } : Oper)) rfl (fun K hK => ?_) AllReadyH.nil
        go_simp
        refine hK.out _ _ (by exact ⟨(x_a.aside (by omega)).c0, (x_b.aside (by omega)).c0, (x_i.aside (by omega)).c0, (x_j.aside (by omega)).c0, (x_e.aside (by omega)).c0, (x_e.aside (by omega)).c1, (x_f.aside (by omega)).c0, (x_f.aside (by omega)).c1⟩) (fun hHeld => ?_)
        clear hK K
        (try simp only [Act.put, List.setIfInBounds_toArray, List.set_cons_zero, List.set_cons_succ])
        refine wpAnyH_done (by kernel_rfl) ?_ _
      rotate_left
      focus
        go_simp
        with_reducible refine (ZMul_any z7.drw z8.drw (J + J2) (by omega) (by omega)).mono ?_
        rintro e v2 ⟨A9, n9, c9, rfl, z9, hb1⟩
        replace hb1 := undrew hb1
        obtain ⟨x_r, x_s, x_a, x_b, x_i, x_j, x_e, x_f, h⟩ := mv9 hb1 x_r x_s x_a x_b x_i x_j x_e x_f h
        obtain ⟨h2, z4, z7, z8, hb⟩ := mv5 hb1 h2 z4 z7 z8 hb
        clear hb1
        replace q_r := x_r.al
        replace q_s := x_s.al
        replace q_a := x_a.al
        replace q_b := x_b.al
        replace q_i := x_i.al
        replace q_j := x_j.al
        replace q_e := x_e.al
        replace q_f := x_f.al
        (try go_wp2_with fail)
        refine hK.out _ _ (by exact ⟨x_a.c0, x_b.c0, x_i.c0, x_j.c0, x_e.c0, x_e.c1, x_f.c0, x_f.c1⟩) (fun hHeld => ?_)
        clear hK K
        (try simp only [Act.put, List.setIfInBounds_toArray, List.set_cons_zero, List.set_cons_succ])
        refine wpAnyH_ready (rs := [0]) (by kernel_rfl) (by simp) ?_
        refine AllReadyH.cons (o := ({ dst := some 14, op := Op.load 30 (Operand.tmp 7), type := 30, pos := "matrix.go:37", after := #[], guard := none } : Oper)) rfl (fun K hK => ?_) AllReadyH.nil
        go_simp
        refine hK.out _ _ (by exact ⟨x_a.c0, x_b.c0, x_i.c0, x_j.c0, x_e.c0, x_e.c1, x_f.c0, x_f.c1⟩) (fun hHeld => ?_)
        clear hK K
        (try simp only [Act.put, List.setIfInBounds_toArray, List.set_cons_zero, List.set_cons_succ])
        refine wpAnyH_ready (rs := [16]) (by kernel_rfl) (by simp) ?_
        refine AllReadyH.cons (o := ({ dst := some 30, op := Op.call { callee := Callee.value (Operand.func 83), args := #[Operand.tmp 14, Operand.tmp 29], argTypes := #[30, 30] }, type := 30, pos := "matrix.go:37", after := #[{ on := 0, ground := Ground.data }, { on := 15, ground := Ground.data }, { on := 15, ground := Ground.chain }], guard := none } : Oper)) rfl (fun K hK => ?_) AllReadyH.nil
        go_simp
        with_reducible refine (ZAdd_any z4.zr z9.zr (J + J2 + j + 1) (by omega) (by omega) (by omega)).mono ?_
        rintro e v3 ⟨A10, n10, c10, rfl, z10, hb1⟩
        obtain ⟨x_r, x_s, x_a, x_b, x_i, x_j, x_e, x_f, h⟩ := mv9 hb1 x_r x_s x_a x_b x_i x_j x_e x_f h
        obtain ⟨h2, z4, z7, z8, z9, hb⟩ := mv6 hb1 h2 z4 z7 z8 z9 hb
        clear hb1
        replace q_r := x_r.al
        replace q_s := x_s.al
        replace q_a := x_a.al
        replace q_b := x_b.al
        replace q_i := x_i.al
        replace q_j := x_j.al
        replace q_e := x_e.al
        replace q_f := x_f.al
        rw [HS.out] at z10 ⊢
        (try go_wp2_with fail)
        refine hK.out _ _ (by exact ⟨x_a.c0, x_b.c0, x_i.c0, x_j.c0, x_e.c0, x_e.c1, x_f.c0, x_f.c1⟩) (fun hHeld => ?_)
        clear hK K
        (try simp only [Act.put, List.setIfInBounds_toArray, List.set_cons_zero, List.set_cons_succ])
        refine wpAnyH_ready (rs := [17]) (by kernel_rfl) (by simp) ?_
        refine AllReadyH.cons (o := ({ dst := none, op := Op.store 30 (Operand.tmp 7) (Operand.tmp 30), type := 0, pos := "matrix.go:37", after := #[{ on := 16, ground := Ground.data }, { on := 16, ground := Ground.chain }, { on := 0, ground := Ground.phase }, { on := 1, ground := Ground.phase }, { on := 2, ground := Ground.phase }, { on := 3, ground := Ground.phase }, { on := 4, ground := Ground.phase }, { on := 5, ground := Ground.phase }, { on := 6, ground := Ground.phase }, { on := 7, ground := Ground.phase }, { on := 8, ground := Ground.phase }, { on := 9, ground := Ground.phase }, { on := 10, ground := Ground.phase }, { on := 11, ground := Ground.phase }, { on := 12, ground := Ground.phase }, { on := 13, ground := Ground.phase }, { on := 14, ground := Ground.phase }, { on := 15, ground := Ground.phase }, { on := 16, ground := Ground.phase }], guard := none } : Oper)) rfl (fun K hK => ?_) AllReadyH.nil
        go_simp
        refine hK.out _ _ (by exact ⟨(x_a.aside (by omega)).c0, (x_b.aside (by omega)).c0, (x_i.aside (by omega)).c0, (x_j.aside (by omega)).c0, (x_e.aside (by omega)).c0, (x_e.aside (by omega)).c1, (x_f.aside (by omega)).c0, (x_f.aside (by omega)).c1⟩) (fun hHeld => ?_)
        clear hK K
        (try simp only [Act.put, List.setIfInBounds_toArray, List.set_cons_zero, List.set_cons_succ])
        refine wpAnyH_done (by kernel_rfl) ?_ _
      all_goals
        go_wp2_with fail
        refine ⟨⟨j + 1, by omega, by go_num, ?_⟩, by simp [intOf]; omega⟩
        clear q_r q_s q_a q_b q_i q_j q_e q_f
        refine x_s.st (F := MuN w gb ga i k (some ⟨d2, o2, none⟩) (some ⟨d, o, none⟩) nb cb na ca M N J J2 (j + 1)) fun v4 hs hx => ?_
        obtain ⟨x_r, x_a, x_b, x_i, x_j, x_e, x_f, h, h2⟩ := ms9 hs ⟨by omega, by omega, by omega, by omega, by omega, by omega, by omega, by omega, by omega⟩ x_r x_a x_b x_i x_j x_e x_f h h2
        obtain ⟨z4, z7, z8, z9, z10, hb⟩ := ms6 hs ⟨trivial, trivial, trivial, trivial, trivial, by omega⟩ z4 z7 z8 z9 z10 hb
        replace x_s := hx; clear hx hs
        have q_r := x_r.al
        have q_s := x_s.al
        have q_a := x_a.al
        have q_b := x_b.al
        have q_i := x_i.al
        have q_j := x_j.al
        have q_e := x_e.al
        have q_f := x_f.al
        exact ⟨x_b, x_a, h, h2, x_r, ⟨_, _, _, by rw [HS2.out]; exact x_s, by rw [HS2.out]; exact z10⟩, hb⟩
end Go.Proofs.YtbpamkpclofnbaaGreat
