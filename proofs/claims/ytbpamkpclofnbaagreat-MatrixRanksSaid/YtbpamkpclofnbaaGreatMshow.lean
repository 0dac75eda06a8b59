/-
  matrix: the laws: shown.
-/
import Derived.Test.YtbpamkpclofnbaaGreatMsh7
namespace Go.Proofs.YtbpamkpclofnbaaGreat
open Go.RowKit
open MP.Se (nf co)
set_option linter.unusedVariables false
set_option maxRecDepth 100000

set_option maxHeartbeats 200000000 in
theorem LMshown_any {w : World} : Calls Tryz.prog 25 #[] w fun e w' => e = .returned (.bool true) ∧ Below w.heap.size w w' := by
  have hb := Below.refl w.heap.size w
  go_enter Tryz.func25, Tryz.ntmps25
  go_wp2_with fail
  refine al1c fun u1 hb1 xb => ?_
  replace hb := Mv.mv hb hb1
  clear hb1
  refine (Lof_at (n := 4) (cols := 2) (N := 2) [1, 2, 3, 4] [[1, 2], [3, 4]] xb rfl (by omega) rfl (by omega) (by decide) rfl).mono ?_
  rintro e v1 ⟨Aa, ca, rfl, a, hb1⟩
  clear xb
  replace hb := Mv.mv hb hb1
  clear hb1
  go_wp2_with fail
  refine (MDet_any (J := 1) a.md (by omega) (by omega) (by decide)).mono ?_
  rintro e v2 ⟨hb1, hcase⟩
  obtain ⟨a, hb⟩ := mv2 hb1 a hb
  clear hb1
  obtain ⟨_, Ad, nd, cd, rfl, zd⟩ := hcase.resolve_left (fun h => h.1 rt_a)
  clear hcase
  rw [det_a] at zd ⊢
  go_upto_region 3 with fail
  refine al1 fun v90 hb1 x_d => ?_
  replace x_d := Bx.of x_d
  obtain ⟨a, zd, hb⟩ := mv3 hb1 a zd hb
  clear hb1
  go_wp2_with fail
  refine al1c fun u3 hb1 xb => ?_
  obtain ⟨x_d, a, zd, hb⟩ := mv4 hb1 x_d a zd hb
  clear hb1
  refine (Lof_at (n := 4) (cols := 2) (N := 2) [1, 2, 2, 4] [[1, 2], [2, 4]] xb rfl (by omega) rfl (by omega) (by decide) rfl).mono ?_
  rintro e v3 ⟨Ab, cb, rfl, b, hb1⟩
  clear xb
  obtain ⟨x_d, a, zd, hb⟩ := mv4 hb1 x_d a zd hb
  clear hb1
  go_wp2_with fail
  refine (MRank_any (J := 1) b.md (by omega) (by omega) (by decide)).mono ?_
  rintro e v4 ⟨hb1, hcase⟩
  obtain ⟨x_d, a, zd, b, hb⟩ := mv5 hb1 x_d a zd b hb
  clear hb1
  obtain ⟨mr, sr, hrt, hrk, rfl⟩ := hcase.resolve_left (fun h => h.1 2 rt_b)
  clear hcase
  obtain rfl : sr = 1 := rk_b hrt hrk
  clear hrt hrk b
  go_wp2_with fail
  refine (MAdjugate_any (J := 1) (KM := kb 1 2) a.md (by omega) (by omega) (by decide) (by decide)).mono ?_
  rintro e v5 hcase
  obtain ⟨_, Ax, nx, cx, rfl, x, hb1⟩ := hcase.resolve_right (fun h => h.1 rt_a)
  obtain rfl : nx = 2 := x.len.symm
  obtain ⟨x_d, a, zd, hb⟩ := mv4 hb1 x_d a zd hb
  clear hb1
  rw [adj_a] at x
  go_wp2_with fail
  refine al1c fun u6 hb1 xb => ?_
  obtain ⟨x_d, a, zd, x, hb⟩ := mv5 hb1 x_d a zd x hb
  clear hb1
  refine (Lof_at (n := 2) (cols := 2) (N := 1) [5, 6] [[5, 6]] xb rfl (by omega) rfl (by omega) (by decide) rfl).mono ?_
  rintro e v6 ⟨Ab, cb, rfl, b, hb1⟩
  clear xb
  obtain ⟨x_d, a, zd, x, hb⟩ := mv5 hb1 x_d a zd x hb
  clear hb1
  obtain ⟨dr, or, Ar, mr, cr, er, x_r, r⟩ := b.row (k := 0) (by omega)
  subst er
  obtain rfl : mr = 2 := r.len.symm
  have q_r : v6.cell? ⟨dr, or, none⟩ = some (.slice Ar 2 cr) := x_r.al
  go_wp2_with fail
  refine (MSolve_any (J := 1) a.md r.pd (by omega) (by omega) (by decide)).mono ?_
  rintro e v7 ⟨hb1, hcase⟩
  obtain ⟨x_d, a, zd, x, b, r, x_r, hb⟩ := mv8 hb1 x_d a zd x b r x_r hb
  clear hb1
  obtain ⟨_, _, _, Ay, cy, Az, nz, cz, rfl, y, zz⟩ := (hcase.resolve_left (fun h => h.1 ⟨rt_a, rfl⟩)).resolve_left (fun h => by have h3 := h.2.2.1; rw [det_a] at h3; cases h3)
  clear hcase
  rw [show lsN 2 (svx 2 (mx [[1, 2], [3, 4]]) (([[5, 6]] : List (List Int))[0]'(by decide))) = [8, -9] by decide +kernel] at y
  rw [det_a] at zz ⊢
  clear x_r r b q_r
  go_upto_region 6 with fail
  refine al1 fun v91 hb1 x_z => ?_
  replace x_z := Bx.of x_z
  obtain ⟨x_d, a, zd, x, y, zz, hb⟩ := mv7 hb1 x_d a zd x y zz hb
  clear hb1
  have Hp : Hid (∀ (w1 : World) (g1 : Nat), w1.heap[g1]? = some (.cells #[.int .i64 1, .int .i64 2] 2) → Calls Tryz.prog 80 #[.int .i64 2, .slice (some ⟨g1, 0, none⟩) 2 2] w1 fun e w2 => ∃ A c, e = .returned (.slice A 1 c) ∧ Mn w2 A 1 c [[1, 2]] 1 ∧ Below w1.heap.size w1 w2) := Lib.hid fun w1 g1 h => Lof_at (n := 2) (cols := 2) (N := 1) [1, 2] [[1, 2]] h rfl (by omega) rfl (by omega) (by decide) rfl
  have Hq : Hid (∀ (w1 : World) (g1 : Nat), w1.heap[g1]? = some (.cells #[.int .i64 3, .int .i64 0, .int .i64 1] 2) → Calls Tryz.prog 80 #[.int .i64 3, .slice (some ⟨g1, 0, none⟩) 3 3] w1 fun e w2 => ∃ A c, e = .returned (.slice A 1 c) ∧ Mn w2 A 1 c [[3, 0, 1]] 1 ∧ Below w1.heap.size w1 w2) := Lib.hid fun w1 g1 h => Lof_at (n := 3) (cols := 3) (N := 1) [3, 0, 1] [[3, 0, 1]] h rfl (by omega) rfl (by omega) (by decide) rfl
  have hv := Below.refl v91.heap.size v91
  have hvx : Below v91.heap.size v91 v91 := hv
  go_cut [11, 12] (fun s9 t9 wx => SyN v91 s9 t9 wx)
  case first =>
    go_region_law (first | (go_simp; go_at_call 80; (first | ((with_reducible refine (Hp.out _ _ (drwh (heap_alloc_new v91 _))).mono ?_); rintro e v9p ⟨Ap, cp, rfl, p0, hb2⟩; replace hb2 := undrew hb2; replace hb2 := bthen (below_alloc v91 (.cells #[.int .i64 1, .int .i64 2] 2)) hb2; replace hv := bthen hv hb2; obtain ⟨dp, op, Bp, mp, kp, ep, x_p, p⟩ := p0.row (k := 0) (by omega); subst ep; obtain rfl : mp = 2 := p.len.symm; replace p : Pn v9p Bp 2 kp [1, 2] 1 := p; have q_p : v9p.cell? ⟨dp, op, none⟩ = some (.slice Bp 2 kp) := x_p.al; have qqp : ∀ ob, (v9p.alloc ob).cell? ⟨dp, op, none⟩ = some (.slice Bp 2 kp) := fun ob => (x_p.alloc ob).al) | ((with_reducible refine (Hp.out _ _ (drwh ((Below.heap_alloc (v91.alloc (.cells #[.int .i64 1, .int .i64 2] 2)) (.cells #[.int .i64 3, .int .i64 0, .int .i64 1] 2) _ (by simp)).trans (heap_alloc_new v91 (.cells #[.int .i64 1, .int .i64 2] 2))))).mono ?_); rintro e v9p ⟨Ap, cp, rfl, p0, hb2⟩; replace hb2 := undrew hb2; have xb : v9p.heap[v91.heap.size + 1]? = some (.cells #[.int .i64 3, .int .i64 0, .int .i64 1] 2) := (hb2.block _ (by simp)).trans (by have := heap_alloc_new (v91.alloc (.cells #[.int .i64 1, .int .i64 2] 2)) (.cells #[.int .i64 3, .int .i64 0, .int .i64 1] 2); simpa using this); replace hb2 := bthen (below_alloc2 v91 (.cells #[.int .i64 1, .int .i64 2] 2) (.cells #[.int .i64 3, .int .i64 0, .int .i64 1] 2)) hb2; replace hv := bthen hv hb2; obtain ⟨dp, op, Bp, mp, kp, ep, x_p, p⟩ := p0.row (k := 0) (by omega); subst ep; obtain rfl : mp = 2 := p.len.symm; replace p : Pn v9p Bp 2 kp [1, 2] 1 := p; have q_p : v9p.cell? ⟨dp, op, none⟩ = some (.slice Bp 2 kp) := x_p.al; have qqp : ∀ ob, (v9p.alloc ob).cell? ⟨dp, op, none⟩ = some (.slice Bp 2 kp) := fun ob => (x_p.alloc ob).al) | ((with_reducible refine (Hp.out _ _ (drwh (w := (v91.alloc (.cells #[.int .i64 3, .int .i64 0, .int .i64 1] 2)).alloc (.cells #[.int .i64 1, .int .i64 2] 2)) (g := v91.heap.size + 1) (by have := heap_alloc_new (v91.alloc (.cells #[.int .i64 3, .int .i64 0, .int .i64 1] 2)) (.cells #[.int .i64 1, .int .i64 2] 2); simpa using this))).mono ?_); rintro e v9p ⟨Ap, cp, rfl, p0, hb2⟩; replace hb2 := undrew hb2; have xb : v9p.heap[v91.heap.size]? = some (.cells #[.int .i64 3, .int .i64 0, .int .i64 1] 2) := (hb2.block _ (by simp; omega)).trans ((Below.heap_alloc _ _ _ (by simp)).trans (heap_alloc_new v91 _)); replace hb2 := bthen (below_alloc2 v91 (.cells #[.int .i64 3, .int .i64 0, .int .i64 1] 2) (.cells #[.int .i64 1, .int .i64 2] 2)) hb2; replace hv := bthen hv hb2; obtain ⟨dp, op, Bp, mp, kp, ep, x_p, p⟩ := p0.row (k := 0) (by omega); subst ep; obtain rfl : mp = 2 := p.len.symm; replace p : Pn v9p Bp 2 kp [1, 2] 1 := p; have q_p : v9p.cell? ⟨dp, op, none⟩ = some (.slice Bp 2 kp) := x_p.al; have qqp : ∀ ob, (v9p.alloc ob).cell? ⟨dp, op, none⟩ = some (.slice Bp 2 kp) := fun ob => (x_p.alloc ob).al) | ((with_reducible refine (Hq.out _ _ xb).mono ?_); rintro e v9q ⟨Aq, cq, rfl, q0, hb2⟩; replace hb2 := hb2; replace hv := bthen hv hb2; replace p := p.keep hb2; replace x_p := x_p.keep hb2; have q_p : v9q.cell? ⟨dp, op, none⟩ = some (.slice Bp 2 kp) := x_p.al; obtain ⟨dq, oq, Bq, mq, kq, eq, x_q, q⟩ := q0.row (k := 0) (by omega); subst eq; obtain rfl : mq = 3 := q.len.symm; replace q : Pn v9q Bq 3 kq [3, 0, 1] 1 := q; have q_q : v9q.cell? ⟨dq, oq, none⟩ = some (.slice Bq 3 kq) := x_q.al; have qqq : ∀ ob, (v9q.alloc ob).cell? ⟨dq, oq, none⟩ = some (.slice Bq 3 kq) := fun ob => (x_q.alloc ob).al) | ((with_reducible refine (Hq.out _ _ (heap_alloc_new v9p _)).mono ?_); rintro e v9q ⟨Aq, cq, rfl, q0, hb2⟩; replace hb2 := bthen (below_alloc v9p (.cells #[.int .i64 3, .int .i64 0, .int .i64 1] 2)) hb2; replace hv := bthen hv hb2; replace p := p.keep hb2; replace x_p := x_p.keep hb2; have q_p : v9q.cell? ⟨dp, op, none⟩ = some (.slice Bp 2 kp) := x_p.al; obtain ⟨dq, oq, Bq, mq, kq, eq, x_q, q⟩ := q0.row (k := 0) (by omega); subst eq; obtain rfl : mq = 3 := q.len.symm; replace q : Pn v9q Bq 3 kq [3, 0, 1] 1 := q; have q_q : v9q.cell? ⟨dq, oq, none⟩ = some (.slice Bq 3 kq) := x_q.al; have qqq : ∀ ob, (v9q.alloc ob).cell? ⟨dq, oq, none⟩ = some (.slice Bq 3 kq) := fun ob => (x_q.alloc ob).al))) | (go_simp; go_at_call 45; (first | ((refine (MSylvester_any (J := 1) p.pd q.pd (by omega) (by omega) (by omega)).mono ?_); rintro e v9s hcase; obtain ⟨_, _, _, As, ns, cs, rfl, sy, hb2⟩ := hcase.resolve_right (fun h => sy_no h.1); replace hv := bthen hv hb2; rw [sy_is] at sy; obtain rfl : ns = 3 := sy.len.symm))))
    all_goals go_wp2_with fail
    all_goals go_meet
    all_goals exact ⟨_, _, rfl, rfl, sy, hv⟩
  obtain ⟨As, cs, rfl, rfl, s_, hb1⟩ := hcut
  clear hv hvx
  obtain ⟨wx, hwx⟩ : ∃ v, v = wc := ⟨_, rfl⟩; subst hwx
  obtain ⟨x_d, x_z, a, zd, x, y, zz, hb⟩ := mv8 hb1 x_d x_z a zd x y zz hb
  clear hb1
  clear Hp Hq
  skip
  have Hp : Hid (∀ (w1 : World) (g1 : Nat), w1.heap[g1]? = some (.cells #[.int .i64 1, .int .i64 2] 2) → Calls Tryz.prog 80 #[.int .i64 2, .slice (some ⟨g1, 0, none⟩) 2 2] w1 fun e w2 => ∃ A c, e = .returned (.slice A 1 c) ∧ Mn w2 A 1 c [[1, 2]] 1 ∧ Below w1.heap.size w1 w2) := Lib.hid fun w1 g1 h => Lof_at (n := 2) (cols := 2) (N := 1) [1, 2] [[1, 2]] h rfl (by omega) rfl (by omega) (by decide) rfl
  have Hq : Hid (∀ (w1 : World) (g1 : Nat), w1.heap[g1]? = some (.cells #[.int .i64 3, .int .i64 0, .int .i64 1] 2) → Calls Tryz.prog 80 #[.int .i64 3, .slice (some ⟨g1, 0, none⟩) 3 3] w1 fun e w2 => ∃ A c, e = .returned (.slice A 1 c) ∧ Mn w2 A 1 c [[3, 0, 1]] 1 ∧ Below w1.heap.size w1 w2) := Lib.hid fun w1 g1 h => Lof_at (n := 3) (cols := 3) (N := 1) [3, 0, 1] [[3, 0, 1]] h rfl (by omega) rfl (by omega) (by decide) rfl
  have hv := Below.refl wx.heap.size wx
  go_upto_region 7 with fail
  go_cut [13] (fun s9 wy => BnNew1 wx 13 361 s9 wy)
  case first =>
    clear a zd x y zz s_ x_d x_z hb
    refine wp_region_held_drew (S := fun _ => True) (by kernel_rfl) trivial (fun _ => ?_)
    refine R7 (w0 := wx) (fun _ _ _ _ _ _ _ _ _ s w9 hbn => ?_)
    go_wp2_with fail
    go_meet
    exact hbn
  obtain ⟨gr, Ar, nr, cr, rfl, x_r, zr, hg, hb1⟩ := hcut
  clear hv Hp Hq
  obtain ⟨wy, hwy⟩ : ∃ v, v = wc := ⟨_, rfl⟩; subst hwy
  obtain ⟨x_d, x_z, a, zd, x, y, zz, s_, hb⟩ := mv9 hb1 x_d x_z a zd x y zz s_ hb
  clear hb1
  have q_d := x_d.al
  have q_z := x_z.al
  have q_r := x_r.al
  have Ho1 : Hid (∀ (w1 : World) (g1 : Nat), w1.heap[g1]? = some (.cells #[.int .i64 4, .int .i64 (-2), .int .i64 (-3), .int .i64 1] 2) → Calls Tryz.prog 80 #[.int .i64 2, .slice (some ⟨g1, 0, none⟩) 4 4] w1 fun e w2 => ∃ A c, e = .returned (.slice A 2 c) ∧ Mn w2 A 2 c [[4, -2], [-3, 1]] 1 ∧ Below w1.heap.size w1 w2) := Lib.hid fun w1 g1 h => Lof_at (n := 4) (cols := 2) (N := 2) [4, -2, -3, 1] [[4, -2], [-3, 1]] h rfl (by omega) rfl (by omega) (by decide) rfl
  have Ho2 : Hid (∀ (w1 : World) (g1 : Nat), w1.heap[g1]? = some (.cells #[.int .i64 8, .int .i64 (-9)] 2) → Calls Tryz.prog 80 #[.int .i64 2, .slice (some ⟨g1, 0, none⟩) 2 2] w1 fun e w2 => ∃ A c, e = .returned (.slice A 1 c) ∧ Mn w2 A 1 c [[8, -9]] 1 ∧ Below w1.heap.size w1 w2) := Lib.hid fun w1 g1 h => Lof_at (n := 2) (cols := 2) (N := 1) [8, -9] [[8, -9]] h rfl (by omega) rfl (by omega) (by decide) rfl
  go_upto_region 8 with fail
  refine wp_region_held_drew (S := fun w' => w'.cell? ⟨v2.heap.size, 0, none⟩ = some (.bool (ngB (-2))) ∧ w'.cell? ⟨v2.heap.size, 1, none⟩ = some (.slice Ad nd cd) ∧ w'.cell? ⟨v7.heap.size, 0, none⟩ = some (.bool (ngB (-2))) ∧ w'.cell? ⟨v7.heap.size, 1, none⟩ = some (.slice Az nz cz)) (by kernel_rfl) (by exact ⟨x_d.c0, x_d.c1, x_z.c0, x_z.c1⟩) (fun hHeld => ?_)
  refine wpAnyH_take (i := 0) (oi := ({ dst := some 63, op := Op.load 30 (Operand.tmp 2), type := 30, pos := "law.go:37", after := #[], guard := none } : Oper)) (v := ?_) rfl (by kernel_rfl) (by kernel_rfl) (by kernel_rfl) (fun _ _ _ h => h) (Or.inl ⟨by rfl, ?_⟩) (by assumption) ?_
  rotate_left
  · (intro w9 hSw; (try dsimp only at hSw); go_simp; all_goals with_reducible rfl)
  (try simp only [Act.put, List.setIfInBounds_toArray, List.set_cons_zero, List.set_cons_succ])
  refine wpAnyH_ready (rs := [1]) (by kernel_rfl) (by simp) ?_
  refine AllReadyH.cons (o := ({ dst := some 64, op := Op.call { callee := Callee.value (Operand.func 54), args := #[Operand.const (Value.int IntKind.i64 (-2))], argTypes := #[2] }, type := 30, pos := "law.go:37", after := #[], guard := none } : Oper)) rfl (fun K hK => ?_) AllReadyH.nil
  go_simp
  with_reducible refine (ROf_any (-2) (by omega) (by omega)).mono ?_
  rintro e v203 ⟨Az201, nz201, cz201, rfl, z201, hb1⟩
  replace hb1 := undrew hb1
  obtain ⟨x_d, x_z, x_r, a, zd, x, y, zz, s_⟩ := mv9 hb1 x_d x_z x_r a zd x y zz s_
  obtain ⟨zr, hb⟩ := mv2 hb1 zr hb
  clear hb1
  replace q_d := x_d.al
  replace q_z := x_z.al
  replace q_r := x_r.al
  (try go_wp2_with fail)
  refine hK.out _ _ (by exact ⟨x_d.c0, x_d.c1, x_z.c0, x_z.c1⟩) (fun hHeld => ?_)
  clear hK K
  (try simp only [Act.put, List.setIfInBounds_toArray, List.set_cons_zero, List.set_cons_succ])
  refine wpAnyH_ready (rs := [2]) (by kernel_rfl) (by simp) ?_
  refine AllReadyH.cons (o := ({ dst := some 65, op := Op.call { callee := Callee.value (Operand.func 15), args := #[Operand.tmp 63, Operand.tmp 64], argTypes := #[30, 30] }, type := 4, pos := "law.go:37", after := #[{ on := 0, ground := Ground.data }, { on := 1, ground := Ground.data }, { on := 1, ground := Ground.chain }], guard := none } : Oper)) rfl (fun K hK => ?_) AllReadyH.nil
  go_simp
  with_reducible refine (RExact_any zd z201).mono ?_
  rintro e v204 ⟨rfl, hb1⟩
  obtain ⟨x_d, x_z, x_r, a, zd, x, y, zz, s_⟩ := mv9 hb1 x_d x_z x_r a zd x y zz s_
  obtain ⟨zr, z201, hb⟩ := mv3 hb1 zr z201 hb
  clear hb1
  replace q_d := x_d.al
  replace q_z := x_z.al
  replace q_r := x_r.al
  rw [show decide ((-2 : Int) = -2) = true from decide_eq_true rfl]
  (try go_wp2_with fail)
  refine hK.out _ _ (by exact ⟨x_d.c0, x_d.c1, x_z.c0, x_z.c1⟩) (fun hHeld => ?_)
  clear hK K
  (try simp only [Act.put, List.setIfInBounds_toArray, List.set_cons_zero, List.set_cons_succ])
  refine wpAnyH_take (i := 3) (oi := ({ dst := some 66, op := Op.unOp UnOp.not 4 (Operand.tmp 65), type := 4, pos := "law.go:37", after := #[{ on := 2, ground := Ground.data }], guard := none } : Oper)) (v := ?_) rfl (by kernel_rfl) (by kernel_rfl) (by kernel_rfl) (fun _ _ _ h => h) (Or.inl ⟨by rfl, ?_⟩) (by assumption) ?_
  rotate_left
  · (intro w9 hSw; (try dsimp only at hSw); go_simp; all_goals with_reducible rfl)
  (try simp only [Act.put, List.setIfInBounds_toArray, List.set_cons_zero, List.set_cons_succ])
  refine wpAnyH_take (i := 4) (oi := ({ dst := some 67, op := Op.move (Operand.tmp 66), type := 4, pos := "law.go:37", after := #[{ on := 3, ground := Ground.data }, { on := 2, ground := Ground.chain }], guard := none } : Oper)) (v := ?_) rfl (by kernel_rfl) (by kernel_rfl) (by kernel_rfl) (fun _ _ _ h => h) (Or.inl ⟨by rfl, ?_⟩) (by assumption) ?_
  rotate_left
  · (intro w9 hSw; (try dsimp only at hSw); go_simp; all_goals with_reducible rfl)
  (try simp only [Act.put, List.setIfInBounds_toArray, List.set_cons_zero, List.set_cons_succ])
  refine wpAnyH_take (i := 5) (oi := ({ dst := some 68, op := Op.move (Operand.tmp 4), type := 3, pos := "law.go:37", after := #[{ on := 4, ground := Ground.guard }], guard := some (4, false) } : Oper)) (v := ?_) rfl (by kernel_rfl) (by kernel_rfl) (by kernel_rfl) (fun _ _ _ h => h) (Or.inl ⟨by rfl, ?_⟩) (by assumption) ?_
  rotate_left
  · (intro w9 hSw; (try dsimp only at hSw); go_simp; all_goals with_reducible rfl)
  (try simp only [Act.put, List.setIfInBounds_toArray, List.set_cons_zero, List.set_cons_succ])
  refine wpAnyH_take (i := 6) (oi := ({ dst := some 69, op := Op.binOp BinOp.neq 3 (Operand.tmp 68) (Operand.const (Value.int IntKind.i64 1)) 3, type := 4, pos := "law.go:37", after := #[{ on := 5, ground := Ground.data }, { on := 4, ground := Ground.guard }], guard := some (4, false) } : Oper)) (v := ?_) rfl (by kernel_rfl) (by kernel_rfl) (by kernel_rfl) (fun _ _ _ h => h) (Or.inl ⟨by rfl, ?_⟩) (by assumption) ?_
  rotate_left
  · (intro w9 hSw; (try dsimp only at hSw); go_simp; all_goals with_reducible rfl)
  (try simp only [Act.put, List.setIfInBounds_toArray, List.set_cons_zero, List.set_cons_succ])
  refine wpAnyH_take (i := 7) (oi := ({ dst := some 70, op := Op.pick (Operand.tmp 67) (Operand.const (Value.bool true)) (Operand.tmp 69), type := 4, pos := "law.go:37", after := #[{ on := 4, ground := Ground.data }, { on := 6, ground := Ground.data }], guard := none } : Oper)) (v := ?_) rfl (by kernel_rfl) (by kernel_rfl) (by kernel_rfl) (fun _ _ _ h => h) (Or.inl ⟨by rfl, ?_⟩) (by assumption) ?_
  rotate_left
  · (intro w9 hSw; (try dsimp only at hSw); go_simp; all_goals with_reducible rfl)
  (try simp only [Act.put, List.setIfInBounds_toArray, List.set_cons_zero, List.set_cons_succ])
  refine wpAnyH_take (i := 8) (oi := ({ dst := some 71, op := Op.move (Operand.tmp 70), type := 4, pos := "law.go:37", after := #[{ on := 7, ground := Ground.data }, { on := 4, ground := Ground.chain }], guard := none } : Oper)) (v := ?_) rfl (by kernel_rfl) (by kernel_rfl) (by kernel_rfl) (fun _ _ _ h => h) (Or.inl ⟨by rfl, ?_⟩) (by assumption) ?_
  rotate_left
  · (intro w9 hSw; (try dsimp only at hSw); go_simp; all_goals with_reducible rfl)
  (try simp only [Act.put, List.setIfInBounds_toArray, List.set_cons_zero, List.set_cons_succ])
  refine wpAnyH_take (i := 9) (oi := ({ dst := some 72, op := Op.move (Operand.tmp 6), type := 35, pos := "law.go:37", after := #[{ on := 8, ground := Ground.guard }], guard := some (8, false) } : Oper)) (v := ?_) rfl (by kernel_rfl) (by kernel_rfl) (by kernel_rfl) (fun _ _ _ h => h) (Or.inl ⟨by rfl, ?_⟩) (by assumption) ?_
  rotate_left
  · (intro w9 hSw; (try dsimp only at hSw); go_simp; all_goals with_reducible rfl)
  (try simp only [Act.put, List.setIfInBounds_toArray, List.set_cons_zero, List.set_cons_succ])
  refine wpAnyH_ready (rs := [10]) (by kernel_rfl) (by simp) ?_
  refine AllReadyH.cons (o := ({ dst := some 73, op := Op.buildSlice 95 4 #[(0, Operand.const (Value.int IntKind.i64 4)), (1, Operand.const (Value.int IntKind.i64 (-2))), (2, Operand.const (Value.int IntKind.i64 (-3))), (3, Operand.const (Value.int IntKind.i64 1))], type := 95, pos := "law.go:37", after := #[{ on := 8, ground := Ground.guard }], guard := some (8, false) } : Oper)) rfl (fun K hK => ?_) AllReadyH.nil
  go_simp
  refine hK.out _ _ (by exact ⟨(x_d.alloc _).c0, (x_d.alloc _).c1, (x_z.alloc _).c0, (x_z.alloc _).c1⟩) (fun hHeld => ?_)
  clear hK K
  (try simp only [Act.put, List.setIfInBounds_toArray, List.set_cons_zero, List.set_cons_succ])
  refine wpAnyH_ready (rs := [11]) (by kernel_rfl) (by simp) ?_
  refine AllReadyH.cons (o := ({ dst := some 74, op := Op.call { callee := Callee.value (Operand.func 80), args := #[Operand.const (Value.int IntKind.i64 2), Operand.tmp 73], argTypes := #[3, 95] }, type := 35, pos := "law.go:37", after := #[{ on := 10, ground := Ground.data }, { on := 8, ground := Ground.chain }, { on := 8, ground := Ground.guard }], guard := some (8, false) } : Oper)) rfl (fun K hK => ?_) AllReadyH.nil
  go_simp
  with_reducible refine (Ho1.out _ _ (heap_alloc_new _ _)).mono ?_
  rintro e v205 ⟨Ab, cb, rfl, b, hb1⟩
  replace hb1 := bthen (below_alloc _ _) hb1
  obtain ⟨x_d, x_z, x_r, a, zd, x, y, zz, s_⟩ := mv9 hb1 x_d x_z x_r a zd x y zz s_
  obtain ⟨zr, z201, hb⟩ := mv3 hb1 zr z201 hb
  clear hb1
  replace q_d := x_d.al
  replace q_z := x_z.al
  replace q_r := x_r.al
  (try go_wp2_with fail)
  refine hK.out _ _ (by exact ⟨x_d.c0, x_d.c1, x_z.c0, x_z.c1⟩) (fun hHeld => ?_)
  clear hK K
  (try simp only [Act.put, List.setIfInBounds_toArray, List.set_cons_zero, List.set_cons_succ])
  refine wpAnyH_ready (rs := [12]) (by kernel_rfl) (by simp) ?_
  refine AllReadyH.cons (o := ({ dst := some 75, op := Op.call { callee := Callee.value (Operand.func 32), args := #[Operand.tmp 72, Operand.tmp 74], argTypes := #[35, 35] }, type := 4, pos := "law.go:37", after := #[{ on := 9, ground := Ground.data }, { on := 11, ground := Ground.data }, { on := 11, ground := Ground.chain }, { on := 8, ground := Ground.guard }], guard := some (8, false) } : Oper)) rfl (fun K hK => ?_) AllReadyH.nil
  go_simp
  with_reducible refine (LMsame_any x b).mono ?_
  rintro e v206 ⟨rfl, hb1⟩
  obtain ⟨x_d, x_z, x_r, a, zd, x, y, zz, s_⟩ := mv9 hb1 x_d x_z x_r a zd x y zz s_
  obtain ⟨zr, z201, b, hb⟩ := mv4 hb1 zr z201 b hb
  clear hb1
  replace q_d := x_d.al
  replace q_z := x_z.al
  replace q_r := x_r.al
  rw [show decide ((([[4, -2], [-3, 1]] : List (List Int))) = ([[4, -2], [-3, 1]] : List (List Int))) = true from decide_eq_true rfl]
  (try go_wp2_with fail)
  refine hK.out _ _ (by exact ⟨x_d.c0, x_d.c1, x_z.c0, x_z.c1⟩) (fun hHeld => ?_)
  clear hK K
  (try simp only [Act.put, List.setIfInBounds_toArray, List.set_cons_zero, List.set_cons_succ])
  refine wpAnyH_take (i := 13) (oi := ({ dst := some 76, op := Op.unOp UnOp.not 4 (Operand.tmp 75), type := 4, pos := "law.go:37", after := #[{ on := 12, ground := Ground.data }, { on := 8, ground := Ground.guard }], guard := some (8, false) } : Oper)) (v := ?_) rfl (by kernel_rfl) (by kernel_rfl) (by kernel_rfl) (fun _ _ _ h => h) (Or.inl ⟨by rfl, ?_⟩) (by assumption) ?_
  rotate_left
  · (intro w9 hSw; (try dsimp only at hSw); go_simp; all_goals with_reducible rfl)
  (try simp only [Act.put, List.setIfInBounds_toArray, List.set_cons_zero, List.set_cons_succ])
  refine wpAnyH_take (i := 14) (oi := ({ dst := some 77, op := Op.pick (Operand.tmp 71) (Operand.const (Value.bool true)) (Operand.tmp 76), type := 4, pos := "law.go:37", after := #[{ on := 8, ground := Ground.data }, { on := 13, ground := Ground.data }], guard := none } : Oper)) (v := ?_) rfl (by kernel_rfl) (by kernel_rfl) (by kernel_rfl) (fun _ _ _ h => h) (Or.inl ⟨by rfl, ?_⟩) (by assumption) ?_
  rotate_left
  · (intro w9 hSw; (try dsimp only at hSw); go_simp; all_goals with_reducible rfl)
  (try simp only [Act.put, List.setIfInBounds_toArray, List.set_cons_zero, List.set_cons_succ])
  refine wpAnyH_take (i := 15) (oi := ({ dst := some 78, op := Op.move (Operand.tmp 77), type := 4, pos := "law.go:37", after := #[{ on := 14, ground := Ground.data }, { on := 12, ground := Ground.chain }], guard := none } : Oper)) (v := ?_) rfl (by kernel_rfl) (by kernel_rfl) (by kernel_rfl) (fun _ _ _ h => h) (Or.inl ⟨by rfl, ?_⟩) (by assumption) ?_
  rotate_left
  · (intro w9 hSw; (try dsimp only at hSw); go_simp; all_goals with_reducible rfl)
  (try simp only [Act.put, List.setIfInBounds_toArray, List.set_cons_zero, List.set_cons_succ])
  refine wpAnyH_take (i := 16) (oi := ({ dst := some 79, op := Op.move (Operand.tmp 8), type := 22, pos := "law.go:37", after := #[{ on := 15, ground := Ground.guard }], guard := some (15, false) } : Oper)) (v := ?_) rfl (by kernel_rfl) (by kernel_rfl) (by kernel_rfl) (fun _ _ _ h => h) (Or.inl ⟨by rfl, ?_⟩) (by assumption) ?_
  rotate_left
  · (intro w9 hSw; (try dsimp only at hSw); go_simp; all_goals with_reducible rfl)
  (try simp only [Act.put, List.setIfInBounds_toArray, List.set_cons_zero, List.set_cons_succ])
  refine wpAnyH_ready (rs := [17]) (by kernel_rfl) (by simp) ?_
  refine AllReadyH.cons (o := ({ dst := some 80, op := Op.buildSlice 95 2 #[(0, Operand.const (Value.int IntKind.i64 8)), (1, Operand.const (Value.int IntKind.i64 (-9)))], type := 95, pos := "law.go:37", after := #[{ on := 15, ground := Ground.guard }], guard := some (15, false) } : Oper)) rfl (fun K hK => ?_) AllReadyH.nil
  go_simp
  refine hK.out _ _ (by exact ⟨(x_d.alloc _).c0, (x_d.alloc _).c1, (x_z.alloc _).c0, (x_z.alloc _).c1⟩) (fun hHeld => ?_)
  clear hK K
  (try simp only [Act.put, List.setIfInBounds_toArray, List.set_cons_zero, List.set_cons_succ])
  refine wpAnyH_ready (rs := [18]) (by kernel_rfl) (by simp) ?_
  refine AllReadyH.cons (o := ({ dst := some 81, op := Op.call { callee := Callee.value (Operand.func 80), args := #[Operand.const (Value.int IntKind.i64 2), Operand.tmp 80], argTypes := #[3, 95] }, type := 35, pos := "law.go:37", after := #[{ on := 17, ground := Ground.data }, { on := 15, ground := Ground.chain }, { on := 15, ground := Ground.guard }], guard := some (15, false) } : Oper)) rfl (fun K hK => ?_) AllReadyH.nil
  go_simp
  with_reducible refine (Ho2.out _ _ (heap_alloc_new _ _)).mono ?_
  rintro e v207 ⟨Ak, ck, rfl, k, hb1⟩
  replace hb1 := bthen (below_alloc _ _) hb1
  obtain ⟨x_d, x_z, x_r, a, zd, x, y, zz, s_⟩ := mv9 hb1 x_d x_z x_r a zd x y zz s_
  obtain ⟨zr, z201, b, hb⟩ := mv4 hb1 zr z201 b hb
  clear hb1
  replace q_d := x_d.al
  replace q_z := x_z.al
  replace q_r := x_r.al
  obtain ⟨dj, oj, Aj, mj, cj, ej, x_j, j⟩ := k.row (k := 0) (by omega)
  subst ej
  obtain rfl : mj = 2 := j.len.symm
  replace j : Pn v207 Aj 2 cj [8, -9] 1 := j
  have q_j : v207.cell? ⟨dj, oj, none⟩ = some (.slice Aj 2 cj) := x_j.al
  (try go_wp2_with fail)
  refine hK.out _ _ (by exact ⟨x_d.c0, x_d.c1, x_z.c0, x_z.c1⟩) (fun hHeld => ?_)
  clear hK K
  (try simp only [Act.put, List.setIfInBounds_toArray, List.set_cons_zero, List.set_cons_succ])
  refine wpAnyH_take (i := 19) (oi := ({ dst := some 82, op := Op.indexAddr 35 (Operand.tmp 81) (Operand.const (Value.int IntKind.i64 0)), type := 0, pos := "law.go:37", after := #[{ on := 18, ground := Ground.data }, { on := 15, ground := Ground.guard }], guard := some (15, false) } : Oper)) (v := ?_) rfl (by kernel_rfl) (by kernel_rfl) (by kernel_rfl) (fun _ _ _ h => h) (Or.inl ⟨by rfl, ?_⟩) (by assumption) ?_
  rotate_left
  · (intro w9 hSw; (try dsimp only at hSw); go_simp; all_goals with_reducible rfl)
  (try simp only [Act.put, List.setIfInBounds_toArray, List.set_cons_zero, List.set_cons_succ])
  refine wpAnyH_ready (rs := [20]) (by kernel_rfl) (by simp) ?_
  refine AllReadyH.cons (o := ({ dst := some 83, op := Op.load 22 (Operand.tmp 82), type := 22, pos := "law.go:37", after := #[{ on := 19, ground := Ground.data }, { on := 15, ground := Ground.guard }], guard := some (15, false) } : Oper)) rfl (fun K hK => ?_) AllReadyH.nil
  go_simp
  refine hK.out _ _ (by exact ⟨x_d.c0, x_d.c1, x_z.c0, x_z.c1⟩) (fun hHeld => ?_)
  clear hK K
  (try simp only [Act.put, List.setIfInBounds_toArray, List.set_cons_zero, List.set_cons_succ])
  refine wpAnyH_ready (rs := [21]) (by kernel_rfl) (by simp) ?_
  refine AllReadyH.cons (o := ({ dst := some 84, op := Op.call { callee := Callee.value (Operand.func 44), args := #[Operand.tmp 79, Operand.tmp 83], argTypes := #[22, 22] }, type := 4, pos := "law.go:37", after := #[{ on := 16, ground := Ground.data }, { on := 20, ground := Ground.data }, { on := 18, ground := Ground.chain }, { on := 15, ground := Ground.guard }], guard := some (15, false) } : Oper)) rfl (fun K hK => ?_) AllReadyH.nil
  go_simp
  with_reducible refine (RExactAll_any y.pn j).mono ?_
  rintro e v208 ⟨rfl, hb1⟩
  obtain ⟨x_d, x_z, x_r, a, zd, x, y, zz, s_⟩ := mv9 hb1 x_d x_z x_r a zd x y zz s_
  obtain ⟨zr, z201, b, k, j, hb⟩ := mv6 hb1 zr z201 b k j hb
  clear hb1
  replace q_d := x_d.al
  replace q_z := x_z.al
  replace q_r := x_r.al
  rw [show decide ((([8, -9] : List Int)) = ([8, -9] : List Int)) = true from decide_eq_true rfl]
  (try go_wp2_with fail)
  refine hK.out _ _ (by exact ⟨x_d.c0, x_d.c1, x_z.c0, x_z.c1⟩) (fun hHeld => ?_)
  clear hK K
  (try simp only [Act.put, List.setIfInBounds_toArray, List.set_cons_zero, List.set_cons_succ])
  refine wpAnyH_take (i := 22) (oi := ({ dst := some 85, op := Op.unOp UnOp.not 4 (Operand.tmp 84), type := 4, pos := "law.go:37", after := #[{ on := 21, ground := Ground.data }, { on := 15, ground := Ground.guard }], guard := some (15, false) } : Oper)) (v := ?_) rfl (by kernel_rfl) (by kernel_rfl) (by kernel_rfl) (fun _ _ _ h => h) (Or.inl ⟨by rfl, ?_⟩) (by assumption) ?_
  rotate_left
  · (intro w9 hSw; (try dsimp only at hSw); go_simp; all_goals with_reducible rfl)
  (try simp only [Act.put, List.setIfInBounds_toArray, List.set_cons_zero, List.set_cons_succ])
  refine wpAnyH_take (i := 23) (oi := ({ dst := some 86, op := Op.pick (Operand.tmp 78) (Operand.const (Value.bool true)) (Operand.tmp 85), type := 4, pos := "law.go:37", after := #[{ on := 15, ground := Ground.data }, { on := 22, ground := Ground.data }], guard := none } : Oper)) (v := ?_) rfl (by kernel_rfl) (by kernel_rfl) (by kernel_rfl) (fun _ _ _ h => h) (Or.inl ⟨by rfl, ?_⟩) (by assumption) ?_
  rotate_left
  · (intro w9 hSw; (try dsimp only at hSw); go_simp; all_goals with_reducible rfl)
  (try simp only [Act.put, List.setIfInBounds_toArray, List.set_cons_zero, List.set_cons_succ])
  refine wpAnyH_take (i := 24) (oi := ({ dst := some 87, op := Op.move (Operand.tmp 86), type := 4, pos := "law.go:37", after := #[{ on := 23, ground := Ground.data }, { on := 21, ground := Ground.chain }], guard := none } : Oper)) (v := ?_) rfl (by kernel_rfl) (by kernel_rfl) (by kernel_rfl) (fun _ _ _ h => h) (Or.inl ⟨by rfl, ?_⟩) (by assumption) ?_
  rotate_left
  · (intro w9 hSw; (try dsimp only at hSw); go_simp; all_goals with_reducible rfl)
  (try simp only [Act.put, List.setIfInBounds_toArray, List.set_cons_zero, List.set_cons_succ])
  refine wpAnyH_take (i := 25) (oi := ({ dst := some 88, op := Op.load 30 (Operand.tmp 9), type := 30, pos := "law.go:37", after := #[{ on := 24, ground := Ground.guard }], guard := some (24, false) } : Oper)) (v := ?_) rfl (by kernel_rfl) (by kernel_rfl) (by kernel_rfl) (fun _ _ _ h => h) (Or.inl ⟨by rfl, ?_⟩) (by assumption) ?_
  rotate_left
  · (intro w9 hSw; (try dsimp only at hSw); go_simp; all_goals with_reducible rfl)
  (try simp only [Act.put, List.setIfInBounds_toArray, List.set_cons_zero, List.set_cons_succ])
  refine wpAnyH_ready (rs := [26]) (by kernel_rfl) (by simp) ?_
  refine AllReadyH.cons (o := ({ dst := some 89, op := Op.call { callee := Callee.value (Operand.func 54), args := #[Operand.const (Value.int IntKind.i64 (-2))], argTypes := #[2] }, type := 30, pos := "law.go:37", after := #[{ on := 24, ground := Ground.chain }, { on := 24, ground := Ground.guard }], guard := some (24, false) } : Oper)) rfl (fun K hK => ?_) AllReadyH.nil
  go_simp
  with_reducible refine (ROf_any (-2) (by omega) (by omega)).mono ?_
  rintro e v209 ⟨Az202, nz202, cz202, rfl, z202, hb1⟩
  obtain ⟨x_d, x_z, x_r, a, zd, x, y, zz, s_⟩ := mv9 hb1 x_d x_z x_r a zd x y zz s_
  obtain ⟨zr, z201, b, k, j, hb⟩ := mv6 hb1 zr z201 b k j hb
  clear hb1
  replace q_d := x_d.al
  replace q_z := x_z.al
  replace q_r := x_r.al
  (try go_wp2_with fail)
  refine hK.out _ _ (by exact ⟨x_d.c0, x_d.c1, x_z.c0, x_z.c1⟩) (fun hHeld => ?_)
  clear hK K
  (try simp only [Act.put, List.setIfInBounds_toArray, List.set_cons_zero, List.set_cons_succ])
  refine wpAnyH_ready (rs := [27]) (by kernel_rfl) (by simp) ?_
  refine AllReadyH.cons (o := ({ dst := some 90, op := Op.call { callee := Callee.value (Operand.func 15), args := #[Operand.tmp 88, Operand.tmp 89], argTypes := #[30, 30] }, type := 4, pos := "law.go:37", after := #[{ on := 25, ground := Ground.data }, { on := 26, ground := Ground.data }, { on := 26, ground := Ground.chain }, { on := 24, ground := Ground.guard }], guard := some (24, false) } : Oper)) rfl (fun K hK => ?_) AllReadyH.nil
  go_simp
  with_reducible refine (RExact_any zz z202).mono ?_
  rintro e v210 ⟨rfl, hb1⟩
  obtain ⟨x_d, x_z, x_r, a, zd, x, y, zz, s_⟩ := mv9 hb1 x_d x_z x_r a zd x y zz s_
  obtain ⟨zr, z201, b, k, j, z202, hb⟩ := mv7 hb1 zr z201 b k j z202 hb
  clear hb1
  replace q_d := x_d.al
  replace q_z := x_z.al
  replace q_r := x_r.al
  rw [show decide ((-2 : Int) = -2) = true from decide_eq_true rfl]
  (try go_wp2_with fail)
  refine hK.out _ _ (by exact ⟨x_d.c0, x_d.c1, x_z.c0, x_z.c1⟩) (fun hHeld => ?_)
  clear hK K
  (try simp only [Act.put, List.setIfInBounds_toArray, List.set_cons_zero, List.set_cons_succ])
  refine wpAnyH_take (i := 28) (oi := ({ dst := some 91, op := Op.unOp UnOp.not 4 (Operand.tmp 90), type := 4, pos := "law.go:37", after := #[{ on := 27, ground := Ground.data }, { on := 24, ground := Ground.guard }], guard := some (24, false) } : Oper)) (v := ?_) rfl (by kernel_rfl) (by kernel_rfl) (by kernel_rfl) (fun _ _ _ h => h) (Or.inl ⟨by rfl, ?_⟩) (by assumption) ?_
  rotate_left
  · (intro w9 hSw; (try dsimp only at hSw); go_simp; all_goals with_reducible rfl)
  (try simp only [Act.put, List.setIfInBounds_toArray, List.set_cons_zero, List.set_cons_succ])
  refine wpAnyH_take (i := 29) (oi := ({ dst := some 92, op := Op.pick (Operand.tmp 87) (Operand.const (Value.bool true)) (Operand.tmp 91), type := 4, pos := "law.go:37", after := #[{ on := 24, ground := Ground.data }, { on := 28, ground := Ground.data }], guard := none } : Oper)) (v := ?_) rfl (by kernel_rfl) (by kernel_rfl) (by kernel_rfl) (fun _ _ _ h => h) (Or.inl ⟨by rfl, ?_⟩) (by assumption) ?_
  rotate_left
  · (intro w9 hSw; (try dsimp only at hSw); go_simp; all_goals with_reducible rfl)
  (try simp only [Act.put, List.setIfInBounds_toArray, List.set_cons_zero, List.set_cons_succ])
  refine wpAnyH_done (by kernel_rfl) ?_ _
  clear zd x y zz b k j
  clear z201 z202
  have Ho3 : Hid (∀ (w1 : World) (g1 : Nat), w1.heap[g1]? = some (.cells #[.int .i64 2, .int .i64 1, .int .i64 0, .int .i64 0, .int .i64 2, .int .i64 1, .int .i64 1, .int .i64 0, .int .i64 3] 2) → Calls Tryz.prog 80 #[.int .i64 3, .slice (some ⟨g1, 0, none⟩) 9 9] w1 fun e w2 => ∃ A c, e = .returned (.slice A 3 c) ∧ Mn w2 A 3 c [[2, 1, 0], [0, 2, 1], [1, 0, 3]] 1 ∧ Below w1.heap.size w1 w2) := Lib.hid fun w1 g1 h => Lof_at (n := 9) (cols := 3) (N := 3) [2, 1, 0, 0, 2, 1, 1, 0, 3] [[2, 1, 0], [0, 2, 1], [1, 0, 3]] h rfl (by omega) rfl (by omega) (by decide) rfl
  go_upto_region 10 with fail
  go_region_held3 (fun w' => w'.cell? ⟨gr, 0, none⟩ = some (.bool (ngB 13)) ∧ w'.cell? ⟨gr, 1, none⟩ = some (.slice Ar nr cr))
    (first | (with_reducible exact ⟨x_r.c0, x_r.c1⟩) | go_keep)
    (first | (go_at_call 80; (with_reducible refine (Ho3.out _ _ (drwh (heap_alloc_new _ _))).mono ?_); rintro e v211 ⟨Ab, cb, rfl, b, hb1⟩; replace hb1 := undrew hb1; replace hb1 := bthen (below_alloc _ _) hb1; obtain ⟨x_d, x_z, x_r, a, s_, zr, hb⟩ := mv7 hb1 x_d x_z x_r a s_ zr hb; clear hb1; replace q_d := x_d.al; replace q_z := x_z.al; replace q_r := x_r.al) | (go_at_call 32; (with_reducible refine (LMsame_any s_ b).mono ?_); rintro e v212 ⟨rfl, hb1⟩; obtain ⟨x_d, x_z, x_r, a, s_, zr, b, hb⟩ := mv8 hb1 x_d x_z x_r a s_ zr b hb; clear hb1; replace q_d := x_d.al; replace q_z := x_z.al; replace q_r := x_r.al; rw [show decide ((([[2, 1, 0], [0, 2, 1], [1, 0, 3]] : List (List Int))) = ([[2, 1, 0], [0, 2, 1], [1, 0, 3]] : List (List Int))) = true from decide_eq_true rfl]) | (go_at_call 54; (with_reducible refine (ROf_any (13) (by omega) (by omega)).mono ?_); rintro e v214 ⟨Az213, nz213, cz213, rfl, z213, hb1⟩; obtain ⟨x_d, x_z, x_r, a, s_, zr, b, hb⟩ := mv8 hb1 x_d x_z x_r a s_ zr b hb; clear hb1; replace q_d := x_d.al; replace q_z := x_z.al; replace q_r := x_r.al) | (go_at_call 15; (with_reducible refine (RExact_any zr z213).mono ?_); rintro e v215 ⟨rfl, hb1⟩; obtain ⟨x_d, x_z, x_r, a, s_, zr, b, z213, hb⟩ := mv9 hb1 x_d x_z x_r a s_ zr b z213 hb; clear hb1; replace q_d := x_d.al; replace q_z := x_z.al; replace q_r := x_r.al; rw [show decide ((13 : Int) = 13) = true from decide_eq_true (rfl)]))
  go_wp2
  go_ret
  exact ⟨rfl, hb⟩
