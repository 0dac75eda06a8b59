/-
 rows: terms.
-/
import Derived.Test.YtdonaominffpnaaGreatDoorKsum
namespace Go.Proofs.YtdonaominffpnaaGreatDoor
variable {AF : Option Addr} {B BD N cF fid gd gf gk gt nF : Nat} {M X : Int} {bF : Bool}
set_option maxRecDepth 100000
set_option maxHeartbeats 16000000
set_option linter.unusedVariables false
open Go.RowKit
theorem ent_terms : ∀ (args : Array Value) (w : World), (callFunc 233 args).run Tryz.prog w = .ok (.enter 233 args) w := enters_of Tryz.func233 (by kernel_rfl) rfl
theorem Kterms1_any {D : Nat → Int} {caps : Array Value} {ID : World → Nat → Prop} (HD : Dv BD fid caps ID D) (hpos : ∀ k, 0 < D k) (hs : ∀ k, Si (dnS X M D k) 20 ∧ Si (upS X M D k) 20) (hN : N ≤ 1000)
  (ho : BD ≤ gf ∧ gf < gd ∧ gd < gt ∧ gt < gk ∧ gk < B) (w : World) (k : Nat) (hk : k ≤ N) (hG : Gs B (TmI gk gt gf gd bF AF nF cF M fid caps BD ID (dnS X M D) (upS X M D)) w k) :
  Calls Tryz.prog 233 #[.pointer (some ⟨gk, 0, none⟩), .pointer (some ⟨gt, 0, none⟩), .pointer (some ⟨gf, 0, none⟩), .pointer (some ⟨gd, 0, none⟩)] w (GPost (fun b => b = gk ∨ b = gt) B (TmI gk gt gf gd bF AF nF cF M fid caps BD ID (dnS X M D) (upS X M D)) (dnS X M D) (upS X M D) w k) := by
 obtain ⟨⟨x_k, ⟨bT, AT, nT, cT, bS, AS, nS, cS, x_t, z_t, z_s⟩, x_f, z_f, x_d, hg⟩, hB, hkeep⟩ := hG
 have HK := Lib.hid hkeep; clear hkeep
 have HE := HD.ent
 have HS := Lib.hid hs; have HP := Lib.hid hpos; clear hs hpos
 rcases k with _ | m
 ·replace x_k : Cx w gk (.int .i64 (-1)) 2 := x_k
  go_enter Tryz.func233, Tryz.ntmps233
  have hl_k := x_k.lt
  have hl_t := x_t.lt
  have hl_f := x_f.lt
  have hl_d := x_d.lt
  go_upto_region 1 with fail
  have x_r : Kx (w.alloc (.cells #[.bool false, .slice none 0 0, .bool false, .slice none 0 0] 190)) (w.heap.size) false none 0 0 false none 0 0 := by have := Kx.new w false none 0 0 false none 0 0; simpa using this
  have hb : Below w.heap.size w (w.alloc (.cells #[.bool false, .slice none 0 0, .bool false, .slice none 0 0] 190)) := (Below.alloc (Below.refl w.heap.size w) (by simp) (.cells #[.bool false, .slice none 0 0, .bool false, .slice none 0 0] 190))
  generalize w.alloc (.cells #[.bool false, .slice none 0 0, .bool false, .slice none 0 0] 190) = v1 at *
  obtain ⟨z_t, z_s, z_f, hg, x_k, x_t, x_f, x_d⟩ := mv8 hb z_t z_s z_f hg x_k x_t x_f x_d
  replace hb := Fr.of (P := (fun b => b = gk ∨ b = gt)) hb
  have q_k := x_k.al
  have q_t := x_t.al
  have q_f := x_f.al
  have q_d := x_d.al
  have q_r := x_r.al
  go_upto_region 2 with fail
  replace x_t := x_t.asideC (v' := (.int .i64 0)) (g := gk) (by omega)
  replace x_f := x_f.asideC (v' := (.int .i64 0)) (g := gk) (by omega)
  replace x_d := x_d.asideC (v' := (.int .i64 0)) (g := gk) (by omega)
  replace x_r := x_r.asideC (v' := (.int .i64 0)) (g := gk) (by omega)
  replace z_t := z_t.putC (v' := (.int .i64 0)) x_k
  replace z_s := z_s.putC (v' := (.int .i64 0)) x_k
  replace z_f := z_f.putC (v' := (.int .i64 0)) x_k
  replace hg := hg.putC (v' := (.int .i64 0)) (by omega) x_k
  replace hb := hb.putC (v' := (.int .i64 0)) (Or.inl (Or.inl rfl)) x_k
  replace x_k := x_k.put (.int .i64 0) (2)
  clear q_k q_t q_f q_d q_r
  generalize v1.setCell ⟨gk, 0, none⟩ (.int .i64 0) = v2 at *
  have q_k := x_k.al
  have q_t := x_t.al
  have q_f := x_f.al
  have q_d := x_d.al
  have q_r := x_r.al
  clear q_f
  clear q_d
  go_wp2_with fail
  replace x_k := x_k.asideK (b' := bT) (A' := AT) (n' := nT) (c' := cT) (p' := bS) (B' := AS) (m' := nS) (d' := cS) (g := w.heap.size) (by omega)
  replace x_t := x_t.asideK (b' := bT) (A' := AT) (n' := nT) (c' := cT) (p' := bS) (B' := AS) (m' := nS) (d' := cS) (g := w.heap.size) (by omega)
  replace x_f := x_f.asideK (b' := bT) (A' := AT) (n' := nT) (c' := cT) (p' := bS) (B' := AS) (m' := nS) (d' := cS) (g := w.heap.size) (by omega)
  replace x_d := x_d.asideK (b' := bT) (A' := AT) (n' := nT) (c' := cT) (p' := bS) (B' := AS) (m' := nS) (d' := cS) (g := w.heap.size) (by omega)
  replace z_t := z_t.putK (b' := bT) (A' := AT) (n' := nT) (c' := cT) (p' := bS) (B' := AS) (m' := nS) (d' := cS) x_r
  replace z_s := z_s.putK (b' := bT) (A' := AT) (n' := nT) (c' := cT) (p' := bS) (B' := AS) (m' := nS) (d' := cS) x_r
  replace z_f := z_f.putK (b' := bT) (A' := AT) (n' := nT) (c' := cT) (p' := bS) (B' := AS) (m' := nS) (d' := cS) x_r
  replace hg := hg.putK (b' := bT) (A' := AT) (n' := nT) (c' := cT) (p' := bS) (B' := AS) (m' := nS) (d' := cS) (by omega) x_r
  replace hb := hb.putK (b' := bT) (A' := AT) (n' := nT) (c' := cT) (p' := bS) (B' := AS) (m' := nS) (d' := cS) (Or.inr (by omega)) x_r
  replace x_r := x_r.put bT AT nT cT bS AS nS cS
  clear q_k q_t q_r
  generalize (((v2.setCell ⟨w.heap.size, 0, none⟩ (.bool bT)).setCell ⟨w.heap.size, 1, none⟩ (.slice AT nT cT)).setCell ⟨w.heap.size, 2, none⟩ (.bool bS)).setCell ⟨w.heap.size, 3, none⟩ (.slice AS nS cS) = v3 at *
  have q_k := x_k.al
  have q_t := x_t.al
  have q_r := x_r.al
  have e0 : (((0 + 1 : Nat) : Int) - 1) = 0 := rfl
  go_wp2
  refine bodyPost_ret (v := .agg #[.bool bT, .slice AT nT cT, .bool bS, .slice AS nS cS]) (by simp [results, Tryz.results233, go_sem, q_r]) rfl ?_
  exact ⟨_, _, _, _, _, _, _, _, rfl, z_t, z_s, ⟨⟨by rw [e0]; exact x_k, ⟨_, _, _, _, _, _, _, _, x_t, z_t, z_s⟩, x_f, z_f, x_d, hg⟩, Nat.le_trans hB hb.size, HK.out⟩, hb⟩
 ·have e1 : (((m + 1 : Nat) : Int) - 1) = m := by omega
  rw [e1] at x_k
  rw [Nat.add_sub_cancel] at z_t z_s
  obtain ⟨U, hU⟩ : ∃ e, dnS X M D m = e := ⟨_, rfl⟩
  obtain ⟨V, hV⟩ : ∃ e, upS X M D m = e := ⟨_, rfl⟩
  obtain ⟨E, hE⟩ : ∃ e, D m = e := ⟨_, rfl⟩
  obtain ⟨U1, hU1⟩ : ∃ e, dnS X M D (m + 1) = e := ⟨_, rfl⟩
  obtain ⟨V1, hV1⟩ : ∃ e, upS X M D (m + 1) = e := ⟨_, rfl⟩
  rw [hU] at z_t; rw [hV] at z_s
  have HU1 : Hid (U * M / E = U1) := Lib.hid (by rw [← hU, ← hE]; exact hU1)
  have HV1 : Hid (-(-(V * M) / E) = V1) := Lib.hid (by rw [← hV, ← hE]; exact hV1)
  have B1 : Hid (Si U1 20) := Lib.hid (by rw [← hU1]; exact (HS.out _).1)
  have B2 : Hid (Si V1 20) := Lib.hid (by rw [← hV1]; exact (HS.out _).2)
  have HE0 : Hid (0 < E) := Lib.hid (by rw [← hE]; exact HP.out m)
  have HEE := Lib.hid hE; have EU1 := Lib.hid hU1; have EV1 := Lib.hid hV1
  clear hU hV hE hU1 hV1
  have w1 : IntKind.i64.wrap ((m : Int) + 1) = m + 1 := wrapK (by omega) (by omega)
  have hm0 : (0 : Int) < (m : Int) + 1 := by omega
  go_enter Tryz.func233, Tryz.ntmps233
  have hl_k := x_k.lt
  have hl_t := x_t.lt
  have hl_f := x_f.lt
  have hl_d := x_d.lt
  go_upto_region 1 with fail
  have x_r : Kx (w.alloc (.cells #[.bool false, .slice none 0 0, .bool false, .slice none 0 0] 190)) (w.heap.size) false none 0 0 false none 0 0 := by have := Kx.new w false none 0 0 false none 0 0; simpa using this
  have hb : Below w.heap.size w (w.alloc (.cells #[.bool false, .slice none 0 0, .bool false, .slice none 0 0] 190)) := (Below.alloc (Below.refl w.heap.size w) (by simp) (.cells #[.bool false, .slice none 0 0, .bool false, .slice none 0 0] 190))
  generalize w.alloc (.cells #[.bool false, .slice none 0 0, .bool false, .slice none 0 0] 190) = v1 at *
  obtain ⟨z_t, z_s, z_f, hg, x_k, x_t, x_f, x_d⟩ := mv8 hb z_t z_s z_f hg x_k x_t x_f x_d
  replace hb := Fr.of (P := (fun b => b = gk ∨ b = gt)) hb
  have q_k := x_k.al
  have q_t := x_t.al
  have q_f := x_f.al
  have q_d := x_d.al
  have q_r := x_r.al
  go_upto_region 2 with fail
  replace x_t := x_t.asideC (v' := (.int .i64 ((m : Int) + 1))) (g := gk) (by omega)
  replace x_f := x_f.asideC (v' := (.int .i64 ((m : Int) + 1))) (g := gk) (by omega)
  replace x_d := x_d.asideC (v' := (.int .i64 ((m : Int) + 1))) (g := gk) (by omega)
  replace x_r := x_r.asideC (v' := (.int .i64 ((m : Int) + 1))) (g := gk) (by omega)
  replace z_t := z_t.putC (v' := (.int .i64 ((m : Int) + 1))) x_k
  replace z_s := z_s.putC (v' := (.int .i64 ((m : Int) + 1))) x_k
  replace z_f := z_f.putC (v' := (.int .i64 ((m : Int) + 1))) x_k
  replace hg := hg.putC (v' := (.int .i64 ((m : Int) + 1))) (by omega) x_k
  replace hb := hb.putC (v' := (.int .i64 ((m : Int) + 1))) (Or.inl (Or.inl rfl)) x_k
  replace x_k := x_k.put (.int .i64 ((m : Int) + 1)) (2)
  clear q_k q_t q_f q_d q_r
  generalize v1.setCell ⟨gk, 0, none⟩ (.int .i64 ((m : Int) + 1)) = v2 at *
  have q_k := x_k.al
  have q_t := x_t.al
  have q_f := x_f.al
  have q_d := x_d.al
  have q_r := x_r.al
  go_upto_region 3 with fail
  refine wp_region_held_drew (S := fun w' => w'.cell? ⟨gk, 0, none⟩ = some (.int .i64 ((m : Int) + 1)) ∧ w'.cell? ⟨gf, 0, none⟩ = some (.bool bF) ∧ w'.cell? ⟨gf, 1, none⟩ = some (.slice AF nF cF) ∧ w'.cell? ⟨gd, 0, none⟩ = some (.func (.func fid) #[] caps)) (by kernel_rfl) (by exact ⟨x_k.c0, x_f.c0, x_f.c1, x_d.c0⟩) (fun hHeld => ?_)
  refine wpAnyH_take (i := 1) (oi := ({ dst := some 10, op := Op.load 24 (Operand.tmp 2), type := 24, pos := "terms.go:17", after := #[], guard := none } : Oper)) (v := ?_) rfl (by kernel_rfl) (by kernel_rfl) (by kernel_rfl) (fun _ _ _ h => h) (Or.inl ⟨by rfl, ?_⟩) (by assumption) ?_
  rotate_left
  ·(intro w9 hSw; (try dsimp only at hSw); go_simp; all_goals with_reducible rfl)
  (try simp only [Act.put, List.setIfInBounds_toArray, List.set_cons_zero, List.set_cons_succ])
  refine wpAnyH_take (i := 3) (oi := ({ dst := some 12, op := Op.load 47 (Operand.tmp 3), type := 47, pos := "terms.go:17", after := #[], guard := none } : Oper)) (v := ?_) rfl (by kernel_rfl) (by kernel_rfl) (by kernel_rfl) (fun _ _ _ h => h) (Or.inl ⟨by rfl, ?_⟩) (by assumption) ?_
  rotate_left
  ·(intro w9 hSw; (try dsimp only at hSw); go_simp; all_goals with_reducible rfl)
  (try simp only [Act.put, List.setIfInBounds_toArray, List.set_cons_zero, List.set_cons_succ])
  refine wpAnyH_take (i := 4) (oi := ({ dst := some 13, op := Op.load 2 (Operand.tmp 0), type := 2, pos := "terms.go:17", after := #[], guard := none } : Oper)) (v := ?_) rfl (by kernel_rfl) (by kernel_rfl) (by kernel_rfl) (fun _ _ _ h => h) (Or.inl ⟨by rfl, ?_⟩) (by assumption) ?_
  rotate_left
  ·(intro w9 hSw; (try dsimp only at hSw); go_simp; all_goals with_reducible rfl)
  (try simp only [Act.put, List.setIfInBounds_toArray, List.set_cons_zero, List.set_cons_succ])
  refine wpAnyH_ready (rs := [0]) (by kernel_rfl) (by simp) ?_
  refine AllReadyH.cons (o := ({ dst := some 9, op := Op.load 190 (Operand.tmp 1), type := 190, pos := "terms.go:17", after := #[], guard := none } : Oper)) rfl (fun K hK => ?_) AllReadyH.nil
  go_simp
  refine hK.out _ _ (by exact ⟨x_k.c0, x_f.c0, x_f.c1, x_d.c0⟩) (fun hHeld => ?_)
  clear hK K
  (try simp only [Act.put, List.setIfInBounds_toArray, List.set_cons_zero, List.set_cons_succ])
  refine wpAnyH_ready (rs := [2]) (by kernel_rfl) (by simp) ?_
  refine AllReadyH.cons (o := ({ dst := some 11, op := Op.call { callee := Callee.value (Operand.func 234), args := #[Operand.tmp 9, Operand.tmp 10], argTypes := #[190, 24] }, type := 190, pos := "terms.go:17", after := #[{ on := 0, ground := Ground.data }, { on := 1, ground := Ground.data }], guard := none } : Oper)) rfl (fun K hK => ?_) AllReadyH.nil
  go_simp
  with_reducible refine (Ktimes_any z_t.drw z_s.drw z_f.drw (by omega) (by omega)).mono ?_
  rintro e v3 ⟨A5, n5, c5, A6, n6, c6, rfl, z5, z6, hb1⟩
  replace hb1 := undrew hb1
  obtain ⟨x_k, x_t, x_f, x_d, x_r, z_t, z_s, z_f, hg⟩ := mv9 hb1 x_k x_t x_f x_d x_r z_t z_s z_f hg
  replace hb := hb.thenB hb1
  clear hb1
  replace q_k := x_k.al
  replace q_t := x_t.al
  replace q_f := x_f.al
  replace q_d := x_d.al
  replace q_r := x_r.al
  (try go_wp2_with fail)
  refine hK.out _ _ (by exact ⟨x_k.c0, x_f.c0, x_f.c1, x_d.c0⟩) (fun hHeld => ?_)
  clear hK K
  (try simp only [Act.put, List.setIfInBounds_toArray, List.set_cons_zero, List.set_cons_succ])
  refine wpAnyH_ready (rs := [5]) (by kernel_rfl) (by simp) ?_
  refine AllReadyH.cons (o := ({ dst := some 14, op := Op.call { callee := Callee.value (Operand.tmp 12), args := #[Operand.tmp 13], argTypes := #[2] }, type := 24, pos := "terms.go:17", after := #[{ on := 3, ground := Ground.data }, { on := 4, ground := Ground.data }, { on := 2, ground := Ground.chain }], guard := none } : Oper)) rfl (fun K hK => ?_) AllReadyH.nil
  go_simp
  with_reducible refine (HD.step _ m (by omega) hg).mono ?_
  rintro e v4 ⟨A7, n7, c7, rfl, z7, hb1⟩
  obtain ⟨x_k, x_t, x_f, x_d, x_r, z_t, z_s, z_f, hg⟩ := mv9 hb1 x_k x_t x_f x_d x_r z_t z_s z_f hg
  obtain ⟨z5, z6⟩ := mv2 hb1 z5 z6
  replace hb := hb.thenB hb1
  clear hb1
  replace q_k := x_k.al
  replace q_t := x_t.al
  replace q_f := x_f.al
  replace q_d := x_d.al
  replace q_r := x_r.al
  rw [HEE.out] at z7 ⊢
  (try go_wp2_with fail)
  refine hK.out _ _ (by exact ⟨x_k.c0, x_f.c0, x_f.c1, x_d.c0⟩) (fun hHeld => ?_)
  clear hK K
  (try simp only [Act.put, List.setIfInBounds_toArray, List.set_cons_zero, List.set_cons_succ])
  refine wpAnyH_ready (rs := [6]) (by kernel_rfl) (by simp) ?_
  refine AllReadyH.cons (o := ({ dst := some 15, op := Op.call { callee := Callee.value (Operand.func 235), args := #[Operand.tmp 11, Operand.tmp 14], argTypes := #[190, 24] }, type := 190, pos := "terms.go:17", after := #[{ on := 2, ground := Ground.data }, { on := 5, ground := Ground.data }, { on := 5, ground := Ground.chain }], guard := none } : Oper)) rfl (fun K hK => ?_) AllReadyH.nil
  go_simp
  with_reducible refine (Kover_any z5.zr z6.zr z7.zr (by omega) (by omega) (by omega) HE0.out).mono ?_
  rintro e v5 ⟨A8, n8, c8, A9, n9, c9, rfl, z8, z9, hb1⟩
  obtain ⟨x_k, x_t, x_f, x_d, x_r, z_t, z_s, z_f, hg⟩ := mv9 hb1 x_k x_t x_f x_d x_r z_t z_s z_f hg
  obtain ⟨z5, z6, z7⟩ := mv3 hb1 z5 z6 z7
  replace hb := hb.thenB hb1
  clear hb1
  replace q_k := x_k.al
  replace q_t := x_t.al
  replace q_f := x_f.al
  replace q_d := x_d.al
  replace q_r := x_r.al
  rw [HU1.out] at z8 ⊢
  rw [HV1.out] at z9 ⊢
  replace z8 := z8.slim B1.out
  replace z9 := z9.slim B2.out
  (try go_wp2_with fail)
  refine hK.out _ _ (by exact ⟨x_k.c0, x_f.c0, x_f.c1, x_d.c0⟩) (fun hHeld => ?_)
  clear hK K
  (try simp only [Act.put, List.setIfInBounds_toArray, List.set_cons_zero, List.set_cons_succ])
  refine wpAnyH_ready (rs := [7]) (by kernel_rfl) (by simp) ?_
  refine AllReadyH.cons (o := ({ dst := none, op := Op.store 190 (Operand.tmp 1) (Operand.tmp 15), type := 0, pos := "terms.go:17", after := #[{ on := 6, ground := Ground.data }, { on := 6, ground := Ground.chain }, { on := 0, ground := Ground.phase }, { on := 1, ground := Ground.phase }, { on := 2, ground := Ground.phase }, { on := 3, ground := Ground.phase }, { on := 4, ground := Ground.phase }, { on := 5, ground := Ground.phase }, { on := 6, ground := Ground.phase }], guard := none } : Oper)) rfl (fun K hK => ?_) AllReadyH.nil
  go_simp
  refine hK.out _ _ (by exact ⟨(x_k.asideK (by omega)).c0, (x_f.asideK (by omega)).c0, (x_f.asideK (by omega)).c1, (x_d.asideK (by omega)).c0⟩) (fun hHeld => ?_)
  clear hK K
  (try simp only [Act.put, List.setIfInBounds_toArray, List.set_cons_zero, List.set_cons_succ])
  refine wpAnyH_done (by kernel_rfl) ?_ _
  go_wp2_with fail
  replace x_k := x_k.asideK (b' := (ngB U1)) (A' := A8) (n' := n8) (c' := c8) (p' := (ngB V1)) (B' := A9) (m' := n9) (d' := c9) (g := gt) (by omega)
  replace x_f := x_f.asideK (b' := (ngB U1)) (A' := A8) (n' := n8) (c' := c8) (p' := (ngB V1)) (B' := A9) (m' := n9) (d' := c9) (g := gt) (by omega)
  replace x_d := x_d.asideK (b' := (ngB U1)) (A' := A8) (n' := n8) (c' := c8) (p' := (ngB V1)) (B' := A9) (m' := n9) (d' := c9) (g := gt) (by omega)
  replace x_r := x_r.asideK (b' := (ngB U1)) (A' := A8) (n' := n8) (c' := c8) (p' := (ngB V1)) (B' := A9) (m' := n9) (d' := c9) (g := gt) (by omega)
  replace z_t := z_t.putK (b' := (ngB U1)) (A' := A8) (n' := n8) (c' := c8) (p' := (ngB V1)) (B' := A9) (m' := n9) (d' := c9) x_t
  replace z_s := z_s.putK (b' := (ngB U1)) (A' := A8) (n' := n8) (c' := c8) (p' := (ngB V1)) (B' := A9) (m' := n9) (d' := c9) x_t
  replace z_f := z_f.putK (b' := (ngB U1)) (A' := A8) (n' := n8) (c' := c8) (p' := (ngB V1)) (B' := A9) (m' := n9) (d' := c9) x_t
  replace hg := hg.putK (b' := (ngB U1)) (A' := A8) (n' := n8) (c' := c8) (p' := (ngB V1)) (B' := A9) (m' := n9) (d' := c9) (by omega) x_t
  replace z5 := z5.putK (b' := (ngB U1)) (A' := A8) (n' := n8) (c' := c8) (p' := (ngB V1)) (B' := A9) (m' := n9) (d' := c9) x_t
  replace z6 := z6.putK (b' := (ngB U1)) (A' := A8) (n' := n8) (c' := c8) (p' := (ngB V1)) (B' := A9) (m' := n9) (d' := c9) x_t
  replace z7 := z7.putK (b' := (ngB U1)) (A' := A8) (n' := n8) (c' := c8) (p' := (ngB V1)) (B' := A9) (m' := n9) (d' := c9) x_t
  replace z8 := z8.putK (b' := (ngB U1)) (A' := A8) (n' := n8) (c' := c8) (p' := (ngB V1)) (B' := A9) (m' := n9) (d' := c9) x_t
  replace z9 := z9.putK (b' := (ngB U1)) (A' := A8) (n' := n8) (c' := c8) (p' := (ngB V1)) (B' := A9) (m' := n9) (d' := c9) x_t
  replace hb := hb.putK (b' := (ngB U1)) (A' := A8) (n' := n8) (c' := c8) (p' := (ngB V1)) (B' := A9) (m' := n9) (d' := c9) (Or.inl (Or.inr rfl)) x_t
  replace x_t := x_t.put (ngB U1) A8 n8 c8 (ngB V1) A9 n9 c9
  clear q_k q_t q_f q_d q_r
  generalize (((v5.setCell ⟨gt, 0, none⟩ (.bool (ngB U1))).setCell ⟨gt, 1, none⟩ (.slice A8 n8 c8)).setCell ⟨gt, 2, none⟩ (.bool (ngB V1))).setCell ⟨gt, 3, none⟩ (.slice A9 n9 c9) = v6 at *
  have q_k := x_k.al
  have q_t := x_t.al
  have q_f := x_f.al
  have q_d := x_d.al
  have q_r := x_r.al
  clear q_f
  clear q_d
  replace x_k := x_k.asideK (b' := (ngB U1)) (A' := A8) (n' := n8) (c' := c8) (p' := (ngB V1)) (B' := A9) (m' := n9) (d' := c9) (g := w.heap.size) (by omega)
  replace x_t := x_t.asideK (b' := (ngB U1)) (A' := A8) (n' := n8) (c' := c8) (p' := (ngB V1)) (B' := A9) (m' := n9) (d' := c9) (g := w.heap.size) (by omega)
  replace x_f := x_f.asideK (b' := (ngB U1)) (A' := A8) (n' := n8) (c' := c8) (p' := (ngB V1)) (B' := A9) (m' := n9) (d' := c9) (g := w.heap.size) (by omega)
  replace x_d := x_d.asideK (b' := (ngB U1)) (A' := A8) (n' := n8) (c' := c8) (p' := (ngB V1)) (B' := A9) (m' := n9) (d' := c9) (g := w.heap.size) (by omega)
  replace z_t := z_t.putK (b' := (ngB U1)) (A' := A8) (n' := n8) (c' := c8) (p' := (ngB V1)) (B' := A9) (m' := n9) (d' := c9) x_r
  replace z_s := z_s.putK (b' := (ngB U1)) (A' := A8) (n' := n8) (c' := c8) (p' := (ngB V1)) (B' := A9) (m' := n9) (d' := c9) x_r
  replace z_f := z_f.putK (b' := (ngB U1)) (A' := A8) (n' := n8) (c' := c8) (p' := (ngB V1)) (B' := A9) (m' := n9) (d' := c9) x_r
  replace hg := hg.putK (b' := (ngB U1)) (A' := A8) (n' := n8) (c' := c8) (p' := (ngB V1)) (B' := A9) (m' := n9) (d' := c9) (by omega) x_r
  replace z5 := z5.putK (b' := (ngB U1)) (A' := A8) (n' := n8) (c' := c8) (p' := (ngB V1)) (B' := A9) (m' := n9) (d' := c9) x_r
  replace z6 := z6.putK (b' := (ngB U1)) (A' := A8) (n' := n8) (c' := c8) (p' := (ngB V1)) (B' := A9) (m' := n9) (d' := c9) x_r
  replace z7 := z7.putK (b' := (ngB U1)) (A' := A8) (n' := n8) (c' := c8) (p' := (ngB V1)) (B' := A9) (m' := n9) (d' := c9) x_r
  replace z8 := z8.putK (b' := (ngB U1)) (A' := A8) (n' := n8) (c' := c8) (p' := (ngB V1)) (B' := A9) (m' := n9) (d' := c9) x_r
  replace z9 := z9.putK (b' := (ngB U1)) (A' := A8) (n' := n8) (c' := c8) (p' := (ngB V1)) (B' := A9) (m' := n9) (d' := c9) x_r
  replace hb := hb.putK (b' := (ngB U1)) (A' := A8) (n' := n8) (c' := c8) (p' := (ngB V1)) (B' := A9) (m' := n9) (d' := c9) (Or.inr (by omega)) x_r
  replace x_r := x_r.put (ngB U1) A8 n8 c8 (ngB V1) A9 n9 c9
  clear q_k q_t q_r
  generalize (((v6.setCell ⟨w.heap.size, 0, none⟩ (.bool (ngB U1))).setCell ⟨w.heap.size, 1, none⟩ (.slice A8 n8 c8)).setCell ⟨w.heap.size, 2, none⟩ (.bool (ngB V1))).setCell ⟨w.heap.size, 3, none⟩ (.slice A9 n9 c9) = v7 at *
  have q_k := x_k.al
  have q_t := x_t.al
  have q_r := x_r.al
  have e2 : (((m + 1 + 1 : Nat) : Int) - 1) = (m : Int) + 1 := by omega
  have e3 : m + 1 + 1 - 1 = m + 1 := rfl
  go_wp2
  refine bodyPost_ret (v := .agg #[.bool (ngB U1), .slice A8 n8 c8, .bool (ngB V1), .slice A9 n9 c9]) (by simp [results, Tryz.results233, go_sem, q_r]) rfl ?_
  exact ⟨_, _, _, _, _, _, _, _, rfl, by rw [EU1.out]; exact z8.zr, by rw [EV1.out]; exact z9.zr, ⟨⟨by rw [e2]; exact x_k, ⟨_, _, _, _, _, _, _, _, x_t, by rw [e3, EU1.out]; exact z8.zr, by rw [e3, EV1.out]; exact z9.zr⟩, x_f, z_f, x_d, hg⟩, Nat.le_trans hB hb.size, HK.out⟩, hb⟩
theorem gen_terms {D : Nat → Int} {caps : Array Value} {ID : World → Nat → Prop} (HD : Dv BD fid caps ID D) (hpos : ∀ k, 0 < D k) (hs : ∀ k, Si (dnS X M D k) 20 ∧ Si (upS X M D k) 20) (hN : N ≤ 1000)
  (ho : BD ≤ gf ∧ gf < gd ∧ gd < gt ∧ gt < gk ∧ gk < B) : Gen (fun b => b = gk ∨ b = gt) B 233 #[.pointer (some ⟨gk, 0, none⟩), .pointer (some ⟨gt, 0, none⟩), .pointer (some ⟨gf, 0, none⟩), .pointer (some ⟨gd, 0, none⟩)] (TmI gk gt gf gd bF AF nF cF M fid caps BD ID (dnS X M D) (upS X M D)) (dnS X M D) (upS X M D) N :=
 ⟨ent_terms, fun b e => by omega, fun w k hk hG => Kterms1_any HD hpos hs hN ho w k hk hG⟩
theorem Kterms_any {b b2 : Bool} {A A2 : Option Addr} {n c n2 c2 : Nat} {D : Nat → Int} {caps : Array Value} {ID : World → Nat → Prop} {w : World} (h : Zr w b A n c X 20) (h2 : Zr w b2 A2 n2 c2 M 40) (HD : Dv BD fid caps ID D) (hg : Gs BD ID w 0) (N : Nat) (hpos : ∀ k, 0 < D k) (hs : ∀ k, Si (dnS X M D k) 20 ∧ Si (upS X M D k) 20) (hN : N ≤ 1000) :
  Calls Tryz.prog 224 #[.agg #[.bool b, .slice A n c], .agg #[.bool b2, .slice A2 n2 c2], .func (.func fid) #[] caps] w (GNew (dnS X M D) (upS X M D) N w) := by
 have hB := hg.2.1
 have HS := Lib.hid hs; have HP := Lib.hid hpos; clear hs hpos
 go_enter Tryz.func224, Tryz.ntmps224
 go_upto_region 1 with fail
 have x_a : Bx (w.alloc (.cells #[.bool b, .slice A n c] 24)) (w.heap.size) b A n c := by have := Bx.new w b A n c; simpa using this
 replace x_a := x_a.alloc (.cells #[.bool b2, .slice A2 n2 c2] 24)
 have x_f : Bx ((w.alloc (.cells #[.bool b, .slice A n c] 24)).alloc (.cells #[.bool b2, .slice A2 n2 c2] 24)) (w.heap.size + 1) b2 A2 n2 c2 := by have := Bx.new (w.alloc (.cells #[.bool b, .slice A n c] 24)) b2 A2 n2 c2; simpa using this
 replace x_a := x_a.alloc (.cells #[.func (.func fid) #[] caps] 47)
 replace x_f := x_f.alloc (.cells #[.func (.func fid) #[] caps] 47)
 have x_d : Cx (((w.alloc (.cells #[.bool b, .slice A n c] 24)).alloc (.cells #[.bool b2, .slice A2 n2 c2] 24)).alloc (.cells #[.func (.func fid) #[] caps] 47)) (w.heap.size + 1 + 1) (.func (.func fid) #[] caps) (47) := by have := Cx.new ((w.alloc (.cells #[.bool b, .slice A n c] 24)).alloc (.cells #[.bool b2, .slice A2 n2 c2] 24)) (.func (.func fid) #[] caps) (47); simpa using this
 have hb : Below w.heap.size w (((w.alloc (.cells #[.bool b, .slice A n c] 24)).alloc (.cells #[.bool b2, .slice A2 n2 c2] 24)).alloc (.cells #[.func (.func fid) #[] caps] 47)) := (Below.alloc (Below.alloc (Below.alloc (Below.refl w.heap.size w) (by simp) (.cells #[.bool b, .slice A n c] 24)) (by simp) (.cells #[.bool b2, .slice A2 n2 c2] 24)) (by simp; omega) (.cells #[.func (.func fid) #[] caps] 47))
 generalize ((w.alloc (.cells #[.bool b, .slice A n c] 24)).alloc (.cells #[.bool b2, .slice A2 n2 c2] 24)).alloc (.cells #[.func (.func fid) #[] caps] 47) = v1 at *
 obtain ⟨h, h2, hg⟩ := mv3 hb h h2 hg
 have q_a := x_a.al
 have q_f := x_f.al
 have q_d := x_d.al
 go_upto_region 2 with fail
 have hb1 := below_alloc v1 (.cells #[.bool b, .slice A n c, .bool b, .slice A n c] 190)
 have l_a_t := x_a.lt
 have l_f_t := x_f.lt
 have l_d_t := x_d.lt
 have x_t := Kx.new v1 b A n c b A n c
 have e_t : w.heap.size ≤ v1.heap.size := hb.size
 clear q_a q_f q_d
 obtain ⟨x_a, x_f, x_d, h, h2, hg⟩ := mv6 hb1 x_a x_f x_d h h2 hg
 replace hb := bthen hb hb1
 clear hb1
 generalize v1.alloc (.cells #[.bool b, .slice A n c, .bool b, .slice A n c] 190) = v2 at *
 have q_a := x_a.al
 have q_f := x_f.al
 have q_d := x_d.al
 have q_t := x_t.al
 go_upto_region 3 with fail
 have hb1 := below_alloc v2 (.cells #[.int .i64 (-1)] 2)
 have l_a_k := x_a.lt
 have l_f_k := x_f.lt
 have l_d_k := x_d.lt
 have l_t_k := x_t.lt
 have x_k := Cx.new v2 (.int .i64 (-1)) (2)
 have e_k : w.heap.size ≤ v2.heap.size := hb.size
 clear q_a q_f q_d q_t
 obtain ⟨x_a, x_f, x_d, x_t, h, h2, hg⟩ := mv7 hb1 x_a x_f x_d x_t h h2 hg
 replace hb := bthen hb hb1
 clear hb1
 generalize v2.alloc (.cells #[.int .i64 (-1)] 2) = v3 at *
 have q_a := x_a.al
 have q_f := x_f.al
 have q_d := x_d.al
 have q_t := x_t.al
 have q_k := x_k.al
 have ho : BD ≤ w.heap.size + 1 ∧ w.heap.size + 1 < w.heap.size + 1 + 1 ∧ w.heap.size + 1 + 1 < v1.heap.size ∧ v1.heap.size < v2.heap.size ∧ v2.heap.size < v3.heap.size := by have := x_k.lt; omega
 go_wp2
 refine bodyPost_ret (v := .func (.func 233) #[] #[.pointer (some ⟨v2.heap.size, 0, none⟩), .pointer (some ⟨v1.heap.size, 0, none⟩), .pointer (some ⟨w.heap.size + 1, 0, none⟩), .pointer (some ⟨w.heap.size + 1 + 1, 0, none⟩)]) (by simp [results, Tryz.results224, go_sem]) rfl ?_
 exact ⟨_, _, _, _, _, rfl, gen_terms HD HP.out HS.out hN ho, ⟨⟨x_k, ⟨_, _, _, _, _, _, _, _, x_t, h, h⟩, x_f, h2, x_d, hg⟩, Nat.le_refl _, TmI.keep (by omega) (by omega) (by omega) (by omega) (by omega)⟩, fun b e => by omega, hb⟩
end Go.Proofs.YtdonaominffpnaaGreatDoor
