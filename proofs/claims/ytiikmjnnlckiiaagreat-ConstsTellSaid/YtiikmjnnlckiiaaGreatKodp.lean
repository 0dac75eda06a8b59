/-
 rows: oddPowers.
-/
import Derived.Test.YtiikmjnnlckiiaaGreatKalt
import Derived.Laws.EntriesVeiled
namespace Go.Proofs.YtiikmjnnlckiiaaGreat
open Go.RowKit
set_option linter.unusedVariables false

/-- What oddPowers' closure keeps. -/
def OdI (go gp fid : Nat) (caps : Array Value) (BI : Nat) (II : World → Nat → Prop) (w : World) (k : Nat) : Prop :=
 Cx w go (.int .i64 (2 * (k : Int) - 1)) 2 ∧ Cx w gp (.func (.func fid) #[] caps) 85 ∧ Gs BI II w k
theorem OdI.keep {go gp fid BI B : Nat} {caps : Array Value} {II : World → Nat → Prop} (h1 : go < B) (h2 : gp < B) (h3 : BI ≤ B) (v v' : World) (j : Nat) (h : OdI go gp fid caps BI II v j) (hf : Fr (fun b => B ≤ b) v v') : OdI go gp fid caps BI II v' j :=
 ⟨h.1.via hf (by omega), h.2.1.via hf (by omega), h.2.2.via hf (fun b hb => by omega)⟩
/-- Terms divided by the odd numbers. -/
def odC (f : Nat → Int) (k : Nat) : Int := f k / (2 * k + 1)
def odD (g : Nat → Int) (k : Nat) : Int := -(-g k / (2 * k + 1))
theorem ent_odd2 : ∀ (args : Array Value) (w : World), (callFunc 105 args).run Tryz.prog w = .ok (.enter 105 args) w := enters_of Tryz.func105 (by kernel_rfl) rfl
set_option maxRecDepth 100000 in
set_option maxHeartbeats 16000000 in
theorem Kodd2_any {go gp BI B fid N : Nat} {caps : Array Value} {PI : Nat → Prop} {II : World → Nat → Prop} {f g : Nat → Int} (G : Gen PI BI fid caps II f g N) (hs : ∀ k, Si (odC f k) 20 ∧ Si (odD g k) 20) (hN : N ≤ 1000) (ho : BI ≤ go ∧ gp < go ∧ go < B) (hp : ¬ PI gp) (w : World) (k : Nat) (hk : k ≤ N) (hG : Gs B (OdI go gp fid caps BI II) w k) :
  Calls Tryz.prog 105 #[.pointer (some ⟨go, 0, none⟩), .pointer (some ⟨gp, 0, none⟩)] w (GPost (fun b => b = go ∨ PI b) B (OdI go gp fid caps BI II) (odC f) (odD g) w k) := by
 obtain ⟨⟨x_o, x_p, hg⟩, hB, hkeep⟩ := hG
 have HK := Lib.hid hkeep; clear hkeep
 have HE := G.ent
 have hgo : ¬ PI go := fun h => by have := G.lt _ h; omega
 obtain ⟨U, hU⟩ : ∃ e, f k = e := ⟨_, rfl⟩
 obtain ⟨V, hV⟩ : ∃ e, g k = e := ⟨_, rfl⟩
 obtain ⟨C, hC⟩ : ∃ e, odC f k = e := ⟨_, rfl⟩
 obtain ⟨D, hD⟩ : ∃ e, odD g k = e := ⟨_, rfl⟩
 have HC : Hid (U / (2 * (k : Int) + 1) = C) := Lib.hid (by rw [← hU]; exact hC)
 have HD : Hid (-(-V / (2 * (k : Int) + 1)) = D) := Lib.hid (by rw [← hV]; exact hD)
 have B1 : Hid (Si C 20) := Lib.hid (by rw [← hC]; exact (hs _).1)
 have B2 : Hid (Si D 20) := Lib.hid (by rw [← hD]; exact (hs _).2)
 have EU := Lib.hid hU; have EV := Lib.hid hV; have EC := Lib.hid hC; have ED := Lib.hid hD
 clear hU hV hC hD hs
 have w1 : IntKind.i64.wrap (2 * (k : Int) - 1 + 2) = 2 * k + 1 := by rw [show 2 * (k : Int) - 1 + 2 = 2 * k + 1 by omega]; exact wrapK (by omega) (by omega)
 go_enter Tryz.func105, Tryz.ntmps105
 have hl_o := x_o.lt
 have hl_p := x_p.lt
 go_upto_region 1 with fail
 have x_r : Kx (w.alloc (.cells #[.bool false, .slice none 0 0, .bool false, .slice none 0 0] 83)) (w.heap.size) false none 0 0 false none 0 0 := by have := Kx.new w false none 0 0 false none 0 0; simpa using this
 have hb : Below w.heap.size w (w.alloc (.cells #[.bool false, .slice none 0 0, .bool false, .slice none 0 0] 83)) := (Below.alloc (Below.refl w.heap.size w) (by simp) (.cells #[.bool false, .slice none 0 0, .bool false, .slice none 0 0] 83))
 generalize w.alloc (.cells #[.bool false, .slice none 0 0, .bool false, .slice none 0 0] 83) = v1 at *
 obtain ⟨hg, x_o, x_p⟩ := mv3 hb hg x_o x_p
 replace hb := Fr.of (P := (fun b => b = go ∨ PI b)) hb
 have q_o := x_o.al
 have q_p := x_p.al
 have q_r := x_r.al
 go_upto_region 2 with fail
 replace x_p := x_p.asideC (v' := (.int .i64 (2 * (k : Int) + 1))) (g := go) (by omega)
 replace x_r := x_r.asideC (v' := (.int .i64 (2 * (k : Int) + 1))) (g := go) (by omega)
 replace hg := hg.putC (v' := (.int .i64 (2 * (k : Int) + 1))) (by omega) x_o
 replace hb := hb.putC (v' := (.int .i64 (2 * (k : Int) + 1))) (Or.inl (Or.inl rfl)) x_o
 replace x_o := x_o.put (.int .i64 (2 * (k : Int) + 1)) (2)
 clear q_o q_p q_r
 generalize v1.setCell ⟨go, 0, none⟩ (.int .i64 (2 * (k : Int) + 1)) = v2 at *
 have q_o := x_o.al
 have q_p := x_p.al
 have q_r := x_r.al
 go_wp2_with fail
 go_region_held3 (fun w' => w'.cell? ⟨go, 0, none⟩ = some (.int .i64 (2 * (k : Int) + 1)) ∧ w'.cell? ⟨gp, 0, none⟩ = some (.func (.func fid) #[] caps))
  (first | (with_reducible exact ⟨x_o.drew.c0, x_p.drew.c0⟩) | (with_reducible exact ⟨x_o.c0, x_p.c0⟩) | (with_reducible exact ⟨(x_o.asideK (by omega)).c0, (x_p.asideK (by omega)).c0⟩))
  (first | (go_at_call 100; (with_reducible refine (ZOf_any (2 * (k : Int) + 1) (by omega) (by omega)).mono ?_); rintro e v4 ⟨A7, n7, c7, rfl, z7, hb1⟩; obtain ⟨x_o, x_p, x_r, z5, z6, hg2⟩ := mv6 hb1 x_o x_p x_r z5 z6 hg2; replace hb := hb.thenB hb1; clear hb1; replace q_o := x_o.al; replace q_p := x_p.al; replace q_r := x_r.al) | (go_at_call 106; (with_reducible refine (Kover_any z5 z6 z7.zr (by omega) (by omega) (by omega) (by omega)).mono ?_); rintro e v5 ⟨A8, n8, c8, A9, n9, c9, rfl, z8, z9, hb1⟩; obtain ⟨x_o, x_p, x_r, z5, z6, hg2, z7⟩ := mv7 hb1 x_o x_p x_r z5 z6 hg2 z7; replace hb := hb.thenB hb1; clear hb1; replace q_o := x_o.al; replace q_p := x_p.al; replace q_r := x_r.al; rw [HC.out] at z8 ⊢; rw [HD.out] at z9 ⊢; replace z8 := z8.slim B1.out; replace z9 := z9.slim B2.out) | ((with_reducible refine (G.step _ k (by omega) hg.drw).mono ?_); rintro e v3 ⟨bA, AA, nA, cA, bC, AC, nC, cC, rfl, z5, z6, hg2, hb1⟩; replace hb1 := frdrew hb1; replace x_o := x_o.via hb1 hgo; replace x_p := x_p.via hb1 hp; replace x_r := x_r.via hb1 (fun hq => by have := G.lt _ hq; omega); replace hb := hb.trans (hb1.mono (fun b _ e => Or.inr e)); clear hb1; replace q_o := x_o.al; replace q_p := x_p.al; replace q_r := x_r.al; rw [EU.out] at z5; rw [EV.out] at z6))
 go_wp2
 replace x_o := x_o.asideK (b' := (ngB C)) (A' := A8) (n' := n8) (c' := c8) (p' := (ngB D)) (B' := A9) (m' := n9) (d' := c9) (g := w.heap.size) (by omega)
 replace x_p := x_p.asideK (b' := (ngB C)) (A' := A8) (n' := n8) (c' := c8) (p' := (ngB D)) (B' := A9) (m' := n9) (d' := c9) (g := w.heap.size) (by omega)
 replace z5 := z5.putK (b' := (ngB C)) (A' := A8) (n' := n8) (c' := c8) (p' := (ngB D)) (B' := A9) (m' := n9) (d' := c9) x_r
 replace z6 := z6.putK (b' := (ngB C)) (A' := A8) (n' := n8) (c' := c8) (p' := (ngB D)) (B' := A9) (m' := n9) (d' := c9) x_r
 replace hg2 := hg2.putK (b' := (ngB C)) (A' := A8) (n' := n8) (c' := c8) (p' := (ngB D)) (B' := A9) (m' := n9) (d' := c9) (by omega) x_r
 replace z7 := z7.putK (b' := (ngB C)) (A' := A8) (n' := n8) (c' := c8) (p' := (ngB D)) (B' := A9) (m' := n9) (d' := c9) x_r
 replace z8 := z8.putK (b' := (ngB C)) (A' := A8) (n' := n8) (c' := c8) (p' := (ngB D)) (B' := A9) (m' := n9) (d' := c9) x_r
 replace z9 := z9.putK (b' := (ngB C)) (A' := A8) (n' := n8) (c' := c8) (p' := (ngB D)) (B' := A9) (m' := n9) (d' := c9) x_r
 replace hb := hb.putK (b' := (ngB C)) (A' := A8) (n' := n8) (c' := c8) (p' := (ngB D)) (B' := A9) (m' := n9) (d' := c9) (Or.inr (by omega)) x_r
 replace x_r := x_r.put (ngB C) A8 n8 c8 (ngB D) A9 n9 c9
 clear q_o q_p q_r
 generalize (((v5.setCell ⟨w.heap.size, 0, none⟩ (.bool (ngB C))).setCell ⟨w.heap.size, 1, none⟩ (.slice A8 n8 c8)).setCell ⟨w.heap.size, 2, none⟩ (.bool (ngB D))).setCell ⟨w.heap.size, 3, none⟩ (.slice A9 n9 c9) = v6 at *
 have q_o := x_o.al
 have q_p := x_p.al
 have q_r := x_r.al
 have e2 : 2 * ((k + 1 : Nat) : Int) - 1 = 2 * k + 1 := by omega
 skip
 refine bodyPost_ret (v := .agg #[.bool (ngB C), .slice A8 n8 c8, .bool (ngB D), .slice A9 n9 c9]) (by simp [results, Tryz.results105, go_sem, q_r]) rfl ?_
 exact ⟨_, _, _, _, _, _, _, _, rfl, by rw [EC.out]; exact z8.zr, by rw [ED.out]; exact z9.zr, ⟨⟨by rw [e2]; exact x_o, x_p, hg2⟩, Nat.le_trans hB hb.size, HK.out⟩, hb⟩

theorem gen_odd {go gp BI B fid N : Nat} {caps : Array Value} {PI : Nat → Prop} {II : World → Nat → Prop} {f g : Nat → Int} (G : Gen PI BI fid caps II f g N) (hs : ∀ k, Si (odC f k) 20 ∧ Si (odD g k) 20) (hN : N ≤ 1000) (ho : BI ≤ go ∧ gp < go ∧ go < B) (hp : ¬ PI gp) : Gen (fun b => b = go ∨ PI b) B 105 #[.pointer (some ⟨go, 0, none⟩), .pointer (some ⟨gp, 0, none⟩)] (OdI go gp fid caps BI II) (odC f) (odD g) N :=
 ⟨ent_odd2, fun b e => e.elim (fun e => by omega) (fun e => by have := G.lt _ e; omega), fun w k hk hG => Kodd2_any G hs hN ho hp w k hk hG⟩
end Go.Proofs.YtiikmjnnlckiiaaGreat
namespace Go.Proofs.YtiikmjnnlckiiaaGreat
open Go.RowKit
set_option linter.unusedVariables false

theorem ent_terms : ∀ (args : Array Value) (w : World), (callFunc 136 args).run Tryz.prog w = .ok (.enter 136 args) w := enters_of Tryz.func136 (by kernel_rfl) rfl
set_option maxRecDepth 100000 in
set_option maxHeartbeats 16000000 in
theorem Kterms1_any {gk gt gf gd BD B fid nF cF N : Nat} {bF : Bool} {AF : Option Addr} {X M : Int} {D : Nat → Int} {caps : Array Value} {ID : World → Nat → Prop} (HD : Dv BD fid caps ID D) (hpos : ∀ k, 0 < D k) (hs : ∀ k, Si (dnS X M D k) 20 ∧ Si (upS X M D k) 20) (hN : N ≤ 1000)
  (ho : BD ≤ gf ∧ gf < gd ∧ gd < gt ∧ gt < gk ∧ gk < B) (w : World) (k : Nat) (hk : k ≤ N) (hG : Gs B (TmI gk gt gf gd bF AF nF cF M fid caps BD ID (dnS X M D) (upS X M D)) w k) :
  Calls Tryz.prog 136 #[.pointer (some ⟨gk, 0, none⟩), .pointer (some ⟨gt, 0, none⟩), .pointer (some ⟨gf, 0, none⟩), .pointer (some ⟨gd, 0, none⟩)] w (GPost (fun b => b = gk ∨ b = gt) B (TmI gk gt gf gd bF AF nF cF M fid caps BD ID (dnS X M D) (upS X M D)) (dnS X M D) (upS X M D) w k) := by
 obtain ⟨⟨x_k, ⟨bT, AT, nT, cT, bS, AS, nS, cS, x_t, z_t, z_s⟩, x_f, z_f, x_d, hg⟩, hB, hkeep⟩ := hG
 have HK := Lib.hid hkeep; clear hkeep
 have HE := HD.ent
 have HS := Lib.hid hs; have HP := Lib.hid hpos; clear hs hpos
 rcases k with _ | m
 ·replace x_k : Cx w gk (.int .i64 (-1)) 2 := x_k
  go_enter Tryz.func136, Tryz.ntmps136
  have hl_k := x_k.lt
  have hl_t := x_t.lt
  have hl_f := x_f.lt
  have hl_d := x_d.lt
  go_upto_region 1 with fail
  have x_r : Kx (w.alloc (.cells #[.bool false, .slice none 0 0, .bool false, .slice none 0 0] 83)) (w.heap.size) false none 0 0 false none 0 0 := by have := Kx.new w false none 0 0 false none 0 0; simpa using this
  have hb : Below w.heap.size w (w.alloc (.cells #[.bool false, .slice none 0 0, .bool false, .slice none 0 0] 83)) := (Below.alloc (Below.refl w.heap.size w) (by simp) (.cells #[.bool false, .slice none 0 0, .bool false, .slice none 0 0] 83))
  generalize w.alloc (.cells #[.bool false, .slice none 0 0, .bool false, .slice none 0 0] 83) = v1 at *
  obtain ⟨z_t, z_s, z_f, hg, x_k, x_t, x_f, x_d⟩ := mv8 hb z_t z_s z_f hg x_k x_t x_f x_d
  replace hb := Fr.of (P := (fun b => b = gk ∨ b = gt)) hb
  have q_k := x_k.al
  have q_t := x_t.al
  have q_f := x_f.al
  have q_d := x_d.al
  have q_r := x_r.al
  go_upto_region 2 with fail
  replace x_t := x_t.asideC (v' := (.int .i64 0)) (g := gk) (by omega)
  replace x_f := x_f.asideC (v' := (.int .i64 0)) (g := gk) (by omega)
  replace x_d := x_d.asideC (v' := (.int .i64 0)) (g := gk) (by omega)
  replace x_r := x_r.asideC (v' := (.int .i64 0)) (g := gk) (by omega)
  replace z_t := z_t.putC (v' := (.int .i64 0)) x_k
  replace z_s := z_s.putC (v' := (.int .i64 0)) x_k
  replace z_f := z_f.putC (v' := (.int .i64 0)) x_k
  replace hg := hg.putC (v' := (.int .i64 0)) (by omega) x_k
  replace hb := hb.putC (v' := (.int .i64 0)) (Or.inl (Or.inl rfl)) x_k
  replace x_k := x_k.put (.int .i64 0) (2)
  clear q_k q_t q_f q_d q_r
  generalize v1.setCell ⟨gk, 0, none⟩ (.int .i64 0) = v2 at *
  have q_k := x_k.al
  have q_t := x_t.al
  have q_f := x_f.al
  have q_d := x_d.al
  have q_r := x_r.al
  clear q_f
  clear q_d
  go_wp2_with fail
  replace x_k := x_k.asideK (b' := bT) (A' := AT) (n' := nT) (c' := cT) (p' := bS) (B' := AS) (m' := nS) (d' := cS) (g := w.heap.size) (by omega)
  replace x_t := x_t.asideK (b' := bT) (A' := AT) (n' := nT) (c' := cT) (p' := bS) (B' := AS) (m' := nS) (d' := cS) (g := w.heap.size) (by omega)
  replace x_f := x_f.asideK (b' := bT) (A' := AT) (n' := nT) (c' := cT) (p' := bS) (B' := AS) (m' := nS) (d' := cS) (g := w.heap.size) (by omega)
  replace x_d := x_d.asideK (b' := bT) (A' := AT) (n' := nT) (c' := cT) (p' := bS) (B' := AS) (m' := nS) (d' := cS) (g := w.heap.size) (by omega)
  replace z_t := z_t.putK (b' := bT) (A' := AT) (n' := nT) (c' := cT) (p' := bS) (B' := AS) (m' := nS) (d' := cS) x_r
  replace z_s := z_s.putK (b' := bT) (A' := AT) (n' := nT) (c' := cT) (p' := bS) (B' := AS) (m' := nS) (d' := cS) x_r
  replace z_f := z_f.putK (b' := bT) (A' := AT) (n' := nT) (c' := cT) (p' := bS) (B' := AS) (m' := nS) (d' := cS) x_r
  replace hg := hg.putK (b' := bT) (A' := AT) (n' := nT) (c' := cT) (p' := bS) (B' := AS) (m' := nS) (d' := cS) (by omega) x_r
  replace hb := hb.putK (b' := bT) (A' := AT) (n' := nT) (c' := cT) (p' := bS) (B' := AS) (m' := nS) (d' := cS) (Or.inr (by omega)) x_r
  replace x_r := x_r.put bT AT nT cT bS AS nS cS
  clear q_k q_t q_r
  generalize (((v2.setCell ⟨w.heap.size, 0, none⟩ (.bool bT)).setCell ⟨w.heap.size, 1, none⟩ (.slice AT nT cT)).setCell ⟨w.heap.size, 2, none⟩ (.bool bS)).setCell ⟨w.heap.size, 3, none⟩ (.slice AS nS cS) = v3 at *
  have q_k := x_k.al
  have q_t := x_t.al
  have q_r := x_r.al
  have e0 : (((0 + 1 : Nat) : Int) - 1) = 0 := rfl
  go_wp2
  refine bodyPost_ret (v := .agg #[.bool bT, .slice AT nT cT, .bool bS, .slice AS nS cS]) (by simp [results, Tryz.results136, go_sem, q_r]) rfl ?_
  exact ⟨_, _, _, _, _, _, _, _, rfl, z_t, z_s, ⟨⟨by rw [e0]; exact x_k, ⟨_, _, _, _, _, _, _, _, x_t, z_t, z_s⟩, x_f, z_f, x_d, hg⟩, Nat.le_trans hB hb.size, HK.out⟩, hb⟩
 ·have e1 : (((m + 1 : Nat) : Int) - 1) = m := by omega
  rw [e1] at x_k
  rw [Nat.add_sub_cancel] at z_t z_s
  obtain ⟨U, hU⟩ : ∃ e, dnS X M D m = e := ⟨_, rfl⟩
  obtain ⟨V, hV⟩ : ∃ e, upS X M D m = e := ⟨_, rfl⟩
  obtain ⟨E, hE⟩ : ∃ e, D m = e := ⟨_, rfl⟩
  obtain ⟨U1, hU1⟩ : ∃ e, dnS X M D (m + 1) = e := ⟨_, rfl⟩
  obtain ⟨V1, hV1⟩ : ∃ e, upS X M D (m + 1) = e := ⟨_, rfl⟩
  rw [hU] at z_t; rw [hV] at z_s
  have HU1 : Hid (U * M / E = U1) := Lib.hid (by rw [← hU, ← hE]; exact hU1)
  have HV1 : Hid (-(-(V * M) / E) = V1) := Lib.hid (by rw [← hV, ← hE]; exact hV1)
  have B1 : Hid (Si U1 20) := Lib.hid (by rw [← hU1]; exact (HS.out _).1)
  have B2 : Hid (Si V1 20) := Lib.hid (by rw [← hV1]; exact (HS.out _).2)
  have HE0 : Hid (0 < E) := Lib.hid (by rw [← hE]; exact HP.out m)
  have HEE := Lib.hid hE; have EU1 := Lib.hid hU1; have EV1 := Lib.hid hV1
  clear hU hV hE hU1 hV1
  have w1 : IntKind.i64.wrap ((m : Int) + 1) = m + 1 := wrapK (by omega) (by omega)
  have hm0 : (0 : Int) < (m : Int) + 1 := by omega
  go_enter Tryz.func136, Tryz.ntmps136
  have hl_k := x_k.lt
  have hl_t := x_t.lt
  have hl_f := x_f.lt
  have hl_d := x_d.lt
  go_upto_region 1 with fail
  have x_r : Kx (w.alloc (.cells #[.bool false, .slice none 0 0, .bool false, .slice none 0 0] 83)) (w.heap.size) false none 0 0 false none 0 0 := by have := Kx.new w false none 0 0 false none 0 0; simpa using this
  have hb : Below w.heap.size w (w.alloc (.cells #[.bool false, .slice none 0 0, .bool false, .slice none 0 0] 83)) := (Below.alloc (Below.refl w.heap.size w) (by simp) (.cells #[.bool false, .slice none 0 0, .bool false, .slice none 0 0] 83))
  generalize w.alloc (.cells #[.bool false, .slice none 0 0, .bool false, .slice none 0 0] 83) = v1 at *
  obtain ⟨z_t, z_s, z_f, hg, x_k, x_t, x_f, x_d⟩ := mv8 hb z_t z_s z_f hg x_k x_t x_f x_d
  replace hb := Fr.of (P := (fun b => b = gk ∨ b = gt)) hb
  have q_k := x_k.al
  have q_t := x_t.al
  have q_f := x_f.al
  have q_d := x_d.al
  have q_r := x_r.al
  go_upto_region 2 with fail
  replace x_t := x_t.asideC (v' := (.int .i64 ((m : Int) + 1))) (g := gk) (by omega)
  replace x_f := x_f.asideC (v' := (.int .i64 ((m : Int) + 1))) (g := gk) (by omega)
  replace x_d := x_d.asideC (v' := (.int .i64 ((m : Int) + 1))) (g := gk) (by omega)
  replace x_r := x_r.asideC (v' := (.int .i64 ((m : Int) + 1))) (g := gk) (by omega)
  replace z_t := z_t.putC (v' := (.int .i64 ((m : Int) + 1))) x_k
  replace z_s := z_s.putC (v' := (.int .i64 ((m : Int) + 1))) x_k
  replace z_f := z_f.putC (v' := (.int .i64 ((m : Int) + 1))) x_k
  replace hg := hg.putC (v' := (.int .i64 ((m : Int) + 1))) (by omega) x_k
  replace hb := hb.putC (v' := (.int .i64 ((m : Int) + 1))) (Or.inl (Or.inl rfl)) x_k
  replace x_k := x_k.put (.int .i64 ((m : Int) + 1)) (2)
  clear q_k q_t q_f q_d q_r
  generalize v1.setCell ⟨gk, 0, none⟩ (.int .i64 ((m : Int) + 1)) = v2 at *
  have q_k := x_k.al
  have q_t := x_t.al
  have q_f := x_f.al
  have q_d := x_d.al
  have q_r := x_r.al
  go_upto_region 3 with fail
  refine wp_region_held_drew (S := fun w' => w'.cell? ⟨gk, 0, none⟩ = some (.int .i64 ((m : Int) + 1)) ∧ w'.cell? ⟨gf, 0, none⟩ = some (.bool bF) ∧ w'.cell? ⟨gf, 1, none⟩ = some (.slice AF nF cF) ∧ w'.cell? ⟨gd, 0, none⟩ = some (.func (.func fid) #[] caps)) (by kernel_rfl) (by exact ⟨x_k.c0, x_f.c0, x_f.c1, x_d.c0⟩) (fun hHeld => ?_)
  refine wpAnyH_take (i := 1) (oi := ({ dst := some 10, op := Op.load 25 (Operand.tmp 2), type := 25, pos := "terms.go:17", after := #[], guard := none } : Oper)) (v := ?_) rfl (by kernel_rfl) (by kernel_rfl) (by kernel_rfl) (fun _ _ _ h => h) (Or.inl ⟨by rfl, ?_⟩) (by assumption) ?_
  rotate_left
  ·(intro w9 hSw; (try dsimp only at hSw); go_simp; all_goals with_reducible rfl)
  (try simp only [Act.put, List.setIfInBounds_toArray, List.set_cons_zero, List.set_cons_succ])
  refine wpAnyH_take (i := 3) (oi := ({ dst := some 12, op := Op.load 41 (Operand.tmp 3), type := 41, pos := "terms.go:17", after := #[], guard := none } : Oper)) (v := ?_) rfl (by kernel_rfl) (by kernel_rfl) (by kernel_rfl) (fun _ _ _ h => h) (Or.inl ⟨by rfl, ?_⟩) (by assumption) ?_
  rotate_left
  ·(intro w9 hSw; (try dsimp only at hSw); go_simp; all_goals with_reducible rfl)
  (try simp only [Act.put, List.setIfInBounds_toArray, List.set_cons_zero, List.set_cons_succ])
  refine wpAnyH_take (i := 4) (oi := ({ dst := some 13, op := Op.load 2 (Operand.tmp 0), type := 2, pos := "terms.go:17", after := #[], guard := none } : Oper)) (v := ?_) rfl (by kernel_rfl) (by kernel_rfl) (by kernel_rfl) (fun _ _ _ h => h) (Or.inl ⟨by rfl, ?_⟩) (by assumption) ?_
  rotate_left
  ·(intro w9 hSw; (try dsimp only at hSw); go_simp; all_goals with_reducible rfl)
  (try simp only [Act.put, List.setIfInBounds_toArray, List.set_cons_zero, List.set_cons_succ])
  refine wpAnyH_ready (rs := [0]) (by kernel_rfl) (by simp) ?_
  refine AllReadyH.cons (o := ({ dst := some 9, op := Op.load 83 (Operand.tmp 1), type := 83, pos := "terms.go:17", after := #[], guard := none } : Oper)) rfl (fun K hK => ?_) AllReadyH.nil
  go_simp
  refine hK.out _ _ (by exact ⟨x_k.c0, x_f.c0, x_f.c1, x_d.c0⟩) (fun hHeld => ?_)
  clear hK K
  (try simp only [Act.put, List.setIfInBounds_toArray, List.set_cons_zero, List.set_cons_succ])
  refine wpAnyH_ready (rs := [2]) (by kernel_rfl) (by simp) ?_
  refine AllReadyH.cons (o := ({ dst := some 11, op := Op.call { callee := Callee.value (Operand.func 137), args := #[Operand.tmp 9, Operand.tmp 10], argTypes := #[83, 25] }, type := 83, pos := "terms.go:17", after := #[{ on := 0, ground := Ground.data }, { on := 1, ground := Ground.data }], guard := none } : Oper)) rfl (fun K hK => ?_) AllReadyH.nil
  go_simp
  with_reducible refine (Ktimes_any z_t.drw z_s.drw z_f.drw (by omega) (by omega)).mono ?_
  rintro e v3 ⟨A5, n5, c5, A6, n6, c6, rfl, z5, z6, hb1⟩
  replace hb1 := undrew hb1
  obtain ⟨x_k, x_t, x_f, x_d, x_r, z_t, z_s, z_f, hg⟩ := mv9 hb1 x_k x_t x_f x_d x_r z_t z_s z_f hg
  replace hb := hb.thenB hb1
  clear hb1
  replace q_k := x_k.al
  replace q_t := x_t.al
  replace q_f := x_f.al
  replace q_d := x_d.al
  replace q_r := x_r.al
  (try go_wp2_with fail)
  refine hK.out _ _ (by exact ⟨x_k.c0, x_f.c0, x_f.c1, x_d.c0⟩) (fun hHeld => ?_)
  clear hK K
  (try simp only [Act.put, List.setIfInBounds_toArray, List.set_cons_zero, List.set_cons_succ])
  refine wpAnyH_ready (rs := [5]) (by kernel_rfl) (by simp) ?_
  refine AllReadyH.cons (o := ({ dst := some 14, op := Op.call { callee := Callee.value (Operand.tmp 12), args := #[Operand.tmp 13], argTypes := #[2] }, type := 25, pos := "terms.go:17", after := #[{ on := 3, ground := Ground.data }, { on := 4, ground := Ground.data }, { on := 2, ground := Ground.chain }], guard := none } : Oper)) rfl (fun K hK => ?_) AllReadyH.nil
  go_simp
  with_reducible refine (HD.step _ m (by omega) hg).mono ?_
  rintro e v4 ⟨A7, n7, c7, rfl, z7, hb1⟩
  obtain ⟨x_k, x_t, x_f, x_d, x_r, z_t, z_s, z_f, hg⟩ := mv9 hb1 x_k x_t x_f x_d x_r z_t z_s z_f hg
  obtain ⟨z5, z6⟩ := mv2 hb1 z5 z6
  replace hb := hb.thenB hb1
  clear hb1
  replace q_k := x_k.al
  replace q_t := x_t.al
  replace q_f := x_f.al
  replace q_d := x_d.al
  replace q_r := x_r.al
  rw [HEE.out] at z7 ⊢
  (try go_wp2_with fail)
  refine hK.out _ _ (by exact ⟨x_k.c0, x_f.c0, x_f.c1, x_d.c0⟩) (fun hHeld => ?_)
  clear hK K
  (try simp only [Act.put, List.setIfInBounds_toArray, List.set_cons_zero, List.set_cons_succ])
  refine wpAnyH_ready (rs := [6]) (by kernel_rfl) (by simp) ?_
  refine AllReadyH.cons (o := ({ dst := some 15, op := Op.call { callee := Callee.value (Operand.func 106), args := #[Operand.tmp 11, Operand.tmp 14], argTypes := #[83, 25] }, type := 83, pos := "terms.go:17", after := #[{ on := 2, ground := Ground.data }, { on := 5, ground := Ground.data }, { on := 5, ground := Ground.chain }], guard := none } : Oper)) rfl (fun K hK => ?_) AllReadyH.nil
  go_simp
  with_reducible refine (Kover_any z5.zr z6.zr z7.zr (by omega) (by omega) (by omega) HE0.out).mono ?_
  rintro e v5 ⟨A8, n8, c8, A9, n9, c9, rfl, z8, z9, hb1⟩
  obtain ⟨x_k, x_t, x_f, x_d, x_r, z_t, z_s, z_f, hg⟩ := mv9 hb1 x_k x_t x_f x_d x_r z_t z_s z_f hg
  obtain ⟨z5, z6, z7⟩ := mv3 hb1 z5 z6 z7
  replace hb := hb.thenB hb1
  clear hb1
  replace q_k := x_k.al
  replace q_t := x_t.al
  replace q_f := x_f.al
  replace q_d := x_d.al
  replace q_r := x_r.al
  rw [HU1.out] at z8 ⊢
  rw [HV1.out] at z9 ⊢
  replace z8 := z8.slim B1.out
  replace z9 := z9.slim B2.out
  (try go_wp2_with fail)
  refine hK.out _ _ (by exact ⟨x_k.c0, x_f.c0, x_f.c1, x_d.c0⟩) (fun hHeld => ?_)
  clear hK K
  (try simp only [Act.put, List.setIfInBounds_toArray, List.set_cons_zero, List.set_cons_succ])
  refine wpAnyH_ready (rs := [7]) (by kernel_rfl) (by simp) ?_
  refine AllReadyH.cons (o := ({ dst := none, op := Op.store 83 (Operand.tmp 1) (Operand.tmp 15), type := 0, pos := "terms.go:17", after := #[{ on := 6, ground := Ground.data }, { on := 6, ground := Ground.chain }, { on := 0, ground := Ground.phase }, { on := 1, ground := Ground.phase }, { on := 2, ground := Ground.phase }, { on := 3, ground := Ground.phase }, { on := 4, ground := Ground.phase }, { on := 5, ground := Ground.phase }, { on := 6, ground := Ground.phase }], guard := none } : Oper)) rfl (fun K hK => ?_) AllReadyH.nil
  go_simp
  refine hK.out _ _ (by exact ⟨(x_k.asideK (by omega)).c0, (x_f.asideK (by omega)).c0, (x_f.asideK (by omega)).c1, (x_d.asideK (by omega)).c0⟩) (fun hHeld => ?_)
  clear hK K
  (try simp only [Act.put, List.setIfInBounds_toArray, List.set_cons_zero, List.set_cons_succ])
  refine wpAnyH_done (by kernel_rfl) ?_ _
  go_wp2_with fail
  replace x_k := x_k.asideK (b' := (ngB U1)) (A' := A8) (n' := n8) (c' := c8) (p' := (ngB V1)) (B' := A9) (m' := n9) (d' := c9) (g := gt) (by omega)
  replace x_f := x_f.asideK (b' := (ngB U1)) (A' := A8) (n' := n8) (c' := c8) (p' := (ngB V1)) (B' := A9) (m' := n9) (d' := c9) (g := gt) (by omega)
  replace x_d := x_d.asideK (b' := (ngB U1)) (A' := A8) (n' := n8) (c' := c8) (p' := (ngB V1)) (B' := A9) (m' := n9) (d' := c9) (g := gt) (by omega)
  replace x_r := x_r.asideK (b' := (ngB U1)) (A' := A8) (n' := n8) (c' := c8) (p' := (ngB V1)) (B' := A9) (m' := n9) (d' := c9) (g := gt) (by omega)
  replace z_t := z_t.putK (b' := (ngB U1)) (A' := A8) (n' := n8) (c' := c8) (p' := (ngB V1)) (B' := A9) (m' := n9) (d' := c9) x_t
  replace z_s := z_s.putK (b' := (ngB U1)) (A' := A8) (n' := n8) (c' := c8) (p' := (ngB V1)) (B' := A9) (m' := n9) (d' := c9) x_t
  replace z_f := z_f.putK (b' := (ngB U1)) (A' := A8) (n' := n8) (c' := c8) (p' := (ngB V1)) (B' := A9) (m' := n9) (d' := c9) x_t
  replace hg := hg.putK (b' := (ngB U1)) (A' := A8) (n' := n8) (c' := c8) (p' := (ngB V1)) (B' := A9) (m' := n9) (d' := c9) (by omega) x_t
  replace z5 := z5.putK (b' := (ngB U1)) (A' := A8) (n' := n8) (c' := c8) (p' := (ngB V1)) (B' := A9) (m' := n9) (d' := c9) x_t
  replace z6 := z6.putK (b' := (ngB U1)) (A' := A8) (n' := n8) (c' := c8) (p' := (ngB V1)) (B' := A9) (m' := n9) (d' := c9) x_t
  replace z7 := z7.putK (b' := (ngB U1)) (A' := A8) (n' := n8) (c' := c8) (p' := (ngB V1)) (B' := A9) (m' := n9) (d' := c9) x_t
  replace z8 := z8.putK (b' := (ngB U1)) (A' := A8) (n' := n8) (c' := c8) (p' := (ngB V1)) (B' := A9) (m' := n9) (d' := c9) x_t
  replace z9 := z9.putK (b' := (ngB U1)) (A' := A8) (n' := n8) (c' := c8) (p' := (ngB V1)) (B' := A9) (m' := n9) (d' := c9) x_t
  replace hb := hb.putK (b' := (ngB U1)) (A' := A8) (n' := n8) (c' := c8) (p' := (ngB V1)) (B' := A9) (m' := n9) (d' := c9) (Or.inl (Or.inr rfl)) x_t
  replace x_t := x_t.put (ngB U1) A8 n8 c8 (ngB V1) A9 n9 c9
  clear q_k q_t q_f q_d q_r
  generalize (((v5.setCell ⟨gt, 0, none⟩ (.bool (ngB U1))).setCell ⟨gt, 1, none⟩ (.slice A8 n8 c8)).setCell ⟨gt, 2, none⟩ (.bool (ngB V1))).setCell ⟨gt, 3, none⟩ (.slice A9 n9 c9) = v6 at *
  have q_k := x_k.al
  have q_t := x_t.al
  have q_f := x_f.al
  have q_d := x_d.al
  have q_r := x_r.al
  clear q_f
  clear q_d
  replace x_k := x_k.asideK (b' := (ngB U1)) (A' := A8) (n' := n8) (c' := c8) (p' := (ngB V1)) (B' := A9) (m' := n9) (d' := c9) (g := w.heap.size) (by omega)
  replace x_t := x_t.asideK (b' := (ngB U1)) (A' := A8) (n' := n8) (c' := c8) (p' := (ngB V1)) (B' := A9) (m' := n9) (d' := c9) (g := w.heap.size) (by omega)
  replace x_f := x_f.asideK (b' := (ngB U1)) (A' := A8) (n' := n8) (c' := c8) (p' := (ngB V1)) (B' := A9) (m' := n9) (d' := c9) (g := w.heap.size) (by omega)
  replace x_d := x_d.asideK (b' := (ngB U1)) (A' := A8) (n' := n8) (c' := c8) (p' := (ngB V1)) (B' := A9) (m' := n9) (d' := c9) (g := w.heap.size) (by omega)
  replace z_t := z_t.putK (b' := (ngB U1)) (A' := A8) (n' := n8) (c' := c8) (p' := (ngB V1)) (B' := A9) (m' := n9) (d' := c9) x_r
  replace z_s := z_s.putK (b' := (ngB U1)) (A' := A8) (n' := n8) (c' := c8) (p' := (ngB V1)) (B' := A9) (m' := n9) (d' := c9) x_r
  replace z_f := z_f.putK (b' := (ngB U1)) (A' := A8) (n' := n8) (c' := c8) (p' := (ngB V1)) (B' := A9) (m' := n9) (d' := c9) x_r
  replace hg := hg.putK (b' := (ngB U1)) (A' := A8) (n' := n8) (c' := c8) (p' := (ngB V1)) (B' := A9) (m' := n9) (d' := c9) (by omega) x_r
  replace z5 := z5.putK (b' := (ngB U1)) (A' := A8) (n' := n8) (c' := c8) (p' := (ngB V1)) (B' := A9) (m' := n9) (d' := c9) x_r
  replace z6 := z6.putK (b' := (ngB U1)) (A' := A8) (n' := n8) (c' := c8) (p' := (ngB V1)) (B' := A9) (m' := n9) (d' := c9) x_r
  replace z7 := z7.putK (b' := (ngB U1)) (A' := A8) (n' := n8) (c' := c8) (p' := (ngB V1)) (B' := A9) (m' := n9) (d' := c9) x_r
  replace z8 := z8.putK (b' := (ngB U1)) (A' := A8) (n' := n8) (c' := c8) (p' := (ngB V1)) (B' := A9) (m' := n9) (d' := c9) x_r
  replace z9 := z9.putK (b' := (ngB U1)) (A' := A8) (n' := n8) (c' := c8) (p' := (ngB V1)) (B' := A9) (m' := n9) (d' := c9) x_r
  replace hb := hb.putK (b' := (ngB U1)) (A' := A8) (n' := n8) (c' := c8) (p' := (ngB V1)) (B' := A9) (m' := n9) (d' := c9) (Or.inr (by omega)) x_r
  replace x_r := x_r.put (ngB U1) A8 n8 c8 (ngB V1) A9 n9 c9
  clear q_k q_t q_r
  generalize (((v6.setCell ⟨w.heap.size, 0, none⟩ (.bool (ngB U1))).setCell ⟨w.heap.size, 1, none⟩ (.slice A8 n8 c8)).setCell ⟨w.heap.size, 2, none⟩ (.bool (ngB V1))).setCell ⟨w.heap.size, 3, none⟩ (.slice A9 n9 c9) = v7 at *
  have q_k := x_k.al
  have q_t := x_t.al
  have q_r := x_r.al
  have e2 : (((m + 1 + 1 : Nat) : Int) - 1) = (m : Int) + 1 := by omega
  have e3 : m + 1 + 1 - 1 = m + 1 := rfl
  go_wp2
  refine bodyPost_ret (v := .agg #[.bool (ngB U1), .slice A8 n8 c8, .bool (ngB V1), .slice A9 n9 c9]) (by simp [results, Tryz.results136, go_sem, q_r]) rfl ?_
  exact ⟨_, _, _, _, _, _, _, _, rfl, by rw [EU1.out]; exact z8.zr, by rw [EV1.out]; exact z9.zr, ⟨⟨by rw [e2]; exact x_k, ⟨_, _, _, _, _, _, _, _, x_t, by rw [e3, EU1.out]; exact z8.zr, by rw [e3, EV1.out]; exact z9.zr⟩, x_f, z_f, x_d, hg⟩, Nat.le_trans hB hb.size, HK.out⟩, hb⟩

theorem gen_terms {gk gt gf gd BD B fid nF cF N : Nat} {bF : Bool} {AF : Option Addr} {X M : Int} {D : Nat → Int} {caps : Array Value} {ID : World → Nat → Prop} (HD : Dv BD fid caps ID D) (hpos : ∀ k, 0 < D k) (hs : ∀ k, Si (dnS X M D k) 20 ∧ Si (upS X M D k) 20) (hN : N ≤ 1000)
  (ho : BD ≤ gf ∧ gf < gd ∧ gd < gt ∧ gt < gk ∧ gk < B) : Gen (fun b => b = gk ∨ b = gt) B 136 #[.pointer (some ⟨gk, 0, none⟩), .pointer (some ⟨gt, 0, none⟩), .pointer (some ⟨gf, 0, none⟩), .pointer (some ⟨gd, 0, none⟩)] (TmI gk gt gf gd bF AF nF cF M fid caps BD ID (dnS X M D) (upS X M D)) (dnS X M D) (upS X M D) N :=
 ⟨ent_terms, fun b e => by omega, fun w k hk hG => Kterms1_any HD hpos hs hN ho w k hk hG⟩
end Go.Proofs.YtiikmjnnlckiiaaGreat
namespace Go.Proofs.YtiikmjnnlckiiaaGreat
open Go.RowKit
set_option linter.unusedVariables false

/-- A new box of a new generator. -/
def CgNew (f g : Nat → Int) (N : Nat) (V : World) (s9 : Value) (wx : World) : Prop :=
 ∃ gp fid caps P I B, s9 = .pointer (some ⟨gp, 0, none⟩) ∧ Cx wx gp (.func (.func fid) #[] caps) 85 ∧ Gen P B fid caps I f g N ∧ Gs B I wx 0 ∧ (∀ b, P b → V.heap.size ≤ b) ∧ V.heap.size ≤ gp ∧ ¬ P gp ∧ Below V.heap.size V wx
theorem CgNew.put {f g : Nat → Int} {N gp fid B : Nat} {caps : Array Value} {P : Nat → Prop} {I : World → Nat → Prop} {V v : World} {u : Value} (hv : Below V.heap.size V v) (x : Cx v gp u 85) (G : Gen P B fid caps I f g N) (hP : ∀ b, P b → V.heap.size ≤ b ∧ b ≠ gp) (hV : V.heap.size ≤ gp) (hI : Gs B I (v.setCell ⟨gp, 0, none⟩ (.func (.func fid) #[] caps)) 0) : CgNew f g N V (.pointer (some ⟨gp, 0, none⟩)) (v.setCell ⟨gp, 0, none⟩ (.func (.func fid) #[] caps)) :=
 ⟨gp, fid, caps, P, I, B, rfl, x.put _ 85 (by intro y h; cases h), G, hI, fun b hb => (hP b hb).1, hV, fun hp => (hP gp hp).2 rfl, hv.setCell hV _⟩
theorem CgNew.new {f g : Nat → Int} {N fid B : Nat} {caps : Array Value} {P : Nat → Prop} {I : World → Nat → Prop} {V v : World} (hv : Below V.heap.size V v) (G : Gen P B fid caps I f g N) (hg : Gs B I v 0) (hP : ∀ b, P b → V.heap.size ≤ b) : CgNew f g N V (.pointer (some ⟨v.heap.size, 0, none⟩)) (v.alloc (.cells #[.func (.func fid) #[] caps] 85)) :=
 ⟨v.heap.size, fid, caps, P, I, B, rfl, Cx.new v _ _ (by intro y h; cases h), G, hg.keep (below_alloc v _), hP, hv.size, fun hp => by have := G.lt _ hp; have := hg.2.1; omega, bthen hv (below_alloc v _)⟩
/-- A new generator; what turns below w in a block that the divisor does not use does not touch it. -/
def GNew2 (BD : Nat) (ID : World → Nat → Prop) (f g : Nat → Int) (N : Nat) (w : World) (e : Ending) (w' : World) : Prop :=
 ∃ fid caps P I B, e = .returned (.func (.func fid) #[] caps) ∧ Gen P B fid caps I f g N ∧ Gs B I w' 0 ∧ (∀ b, P b → w.heap.size ≤ b) ∧ (∀ v v' g, g < w.heap.size → (∀ u u', Gs BD ID u 0 → Fr (fun b => b = g) u u' → Gs BD ID u' 0) → Gs B I v 0 → Fr (fun b => b = g) v v' → Gs B I v' 0) ∧ Below w.heap.size w w'
theorem TmI.one {gk gt gf gd BD nF cF fid g : Nat} {bF : Bool} {AF : Option Addr} {M : Int} {caps : Array Value} {ID : World → Nat → Prop} {f f2 : Nat → Int} (h1 : gk ≠ g) (h2 : gt ≠ g) (h3 : gf ≠ g) (h4 : gd ≠ g) (v v' : World) (j : Nat) (hD : Gs BD ID v 0 → Gs BD ID v' 0) (h : TmI gk gt gf gd bF AF nF cF M fid caps BD ID f f2 v j) (hf : Fr (fun b => b = g) v v') : TmI gk gt gf gd bF AF nF cF M fid caps BD ID f f2 v' j := by
 obtain ⟨a1, ⟨b, A, n, c, b2, A2, n2, c2, a2, a3, a4⟩, a5, a6, a7, a8⟩ := h
 exact ⟨a1.via hf h1, ⟨b, A, n, c, b2, A2, n2, c2, a2.via hf h2, a3.via hf, a4.via hf⟩, a5.via hf h3, a6.via hf, a7.via hf h4, hD a8⟩
theorem dv_odd {gs n c : Nat} {A : Option Addr} {S : Int} : Dv (gs + 1) 104 #[.pointer (some ⟨gs, 0, none⟩)] (fun w _ => Bx w gs (ngB S) A n c ∧ Zn w A n c S 129) (fun _ => S) :=
 ⟨ent_odd, fun w k hk hg => KoddD_any hg.1.1 hg.1.2⟩
theorem gs_odd {gs n c : Nat} {A : Option Addr} {S : Int} {w : World} (x : Bx w gs (ngB S) A n c) (z : Zn w A n c S 129) : Gs (gs + 1) (fun w _ => Bx w gs (ngB S) A n c ∧ Zn w A n c S 129) w 0 :=
 ⟨⟨x, z⟩, x.lt, fun v v' j h hf => ⟨h.1.via hf (by omega), h.2.via hf⟩⟩
theorem tw_sq (Q : Nat) : 1 * (2 : Int) ^ sc (2 * (Q : Int)) = twP Q * twP Q ∨ 2400 < 2 * Q := by
 rcases (show 2 * Q ≤ 2400 ∨ 2400 < 2 * Q by omega) with h | h
 ·left
  rw [show sc (2 * (Q : Int)) = Q + Q by unfold sc; omega, Int.pow_add, Int.one_mul]; rfl
 ·exact .inr h
theorem odC_ta (X : Int) (Q : Nat) : odC (dnS X (X * X) (fun _ => twP Q * twP Q)) = taC X Q := rfl
theorem odD_ta (X : Int) (Q : Nat) : odD (upS X (X * X) (fun _ => twP Q * twP Q)) = taD X Q := rfl
theorem ta_cd2 {t : Int} {q : Nat} (h0 : 0 ≤ t) (h : t ≤ twP q) (k : Nat) : 0 ≤ taC t q k ∧ taC t q k ≤ taD t q k ∧ taD t q k ≤ twP q := by
 have hb := ta_bd h0 h k
 refine ⟨ta_c_nonneg h0 k, ta_c_d h0 k, ?_⟩
 unfold taD
 rw [up_le (two_pos k)]
 have := Int.mul_le_mul_of_nonneg_left (show (1 : Int) ≤ 2 * k + 1 by omega) (Int.le_of_lt (tw_pos q))
 omega
theorem ta_si {t : Int} {q : Nat} (h0 : 0 ≤ t) (h : t ≤ twP q) (hq : q ≤ 1200) (k : Nat) : (Si (taU t q k) 20 ∧ Si (taV t q k) 20) ∧ (Si (taC t q k) 20 ∧ Si (taD t q k) 20) := by
 have a := ta_bd h0 h k
 have b := ta_cd2 h0 h k
 have p := tw_pos q
 exact ⟨⟨si_tw (K := 1) (by omega) hq (by omega) (by omega), si_tw (K := 1) (by omega) hq (by omega) (by omega)⟩, si_tw (K := 1) (by omega) hq (by omega) (by omega), si_tw (K := 1) (by omega) hq (by omega) (by omega)⟩
set_option maxRecDepth 100000 in
set_option maxHeartbeats 8000000 in
theorem Kterms2_any {b b2 : Bool} {A A2 : Option Addr} {n c n2 c2 BD fid : Nat} {X M : Int} {D : Nat → Int} {caps : Array Value} {ID : World → Nat → Prop} {w : World} (h : Zr w b A n c X 20) (h2 : Zr w b2 A2 n2 c2 M 40) (HD : Dv BD fid caps ID D) (hg : Gs BD ID w 0) (N : Nat) (hpos : ∀ k, 0 < D k) (hs : ∀ k, Si (dnS X M D k) 20 ∧ Si (upS X M D k) 20) (hN : N ≤ 1000) :
  Calls Tryz.prog 103 #[.agg #[.bool b, .slice A n c], .agg #[.bool b2, .slice A2 n2 c2], .func (.func fid) #[] caps] w (GNew2 BD ID (dnS X M D) (upS X M D) N w) := by
 have hB := hg.2.1
 have HS := Lib.hid hs; have HP := Lib.hid hpos; clear hs hpos
 go_enter Tryz.func103, Tryz.ntmps103
 go_upto_region 1 with fail
 have x_a : Bx (w.alloc (.cells #[.bool b, .slice A n c] 25)) (w.heap.size) b A n c := by have := Bx.new w b A n c; simpa using this
 replace x_a := x_a.alloc (.cells #[.bool b2, .slice A2 n2 c2] 25)
 have x_f : Bx ((w.alloc (.cells #[.bool b, .slice A n c] 25)).alloc (.cells #[.bool b2, .slice A2 n2 c2] 25)) (w.heap.size + 1) b2 A2 n2 c2 := by have := Bx.new (w.alloc (.cells #[.bool b, .slice A n c] 25)) b2 A2 n2 c2; simpa using this
 replace x_a := x_a.alloc (.cells #[.func (.func fid) #[] caps] 41)
 replace x_f := x_f.alloc (.cells #[.func (.func fid) #[] caps] 41)
 have x_d : Cx (((w.alloc (.cells #[.bool b, .slice A n c] 25)).alloc (.cells #[.bool b2, .slice A2 n2 c2] 25)).alloc (.cells #[.func (.func fid) #[] caps] 41)) (w.heap.size + 1 + 1) (.func (.func fid) #[] caps) (41) := by have := Cx.new ((w.alloc (.cells #[.bool b, .slice A n c] 25)).alloc (.cells #[.bool b2, .slice A2 n2 c2] 25)) (.func (.func fid) #[] caps) (41); simpa using this
 have hb : Below w.heap.size w (((w.alloc (.cells #[.bool b, .slice A n c] 25)).alloc (.cells #[.bool b2, .slice A2 n2 c2] 25)).alloc (.cells #[.func (.func fid) #[] caps] 41)) := (Below.alloc (Below.alloc (Below.alloc (Below.refl w.heap.size w) (by simp) (.cells #[.bool b, .slice A n c] 25)) (by simp) (.cells #[.bool b2, .slice A2 n2 c2] 25)) (by simp; omega) (.cells #[.func (.func fid) #[] caps] 41))
 generalize ((w.alloc (.cells #[.bool b, .slice A n c] 25)).alloc (.cells #[.bool b2, .slice A2 n2 c2] 25)).alloc (.cells #[.func (.func fid) #[] caps] 41) = v1 at *
 obtain ⟨h, h2, hg⟩ := mv3 hb h h2 hg
 have q_a := x_a.al
 have q_f := x_f.al
 have q_d := x_d.al
 go_upto_region 2 with fail
 have hb1 := below_alloc v1 (.cells #[.bool b, .slice A n c, .bool b, .slice A n c] 83)
 have l_a_t := x_a.lt
 have l_f_t := x_f.lt
 have l_d_t := x_d.lt
 have x_t := Kx.new v1 b A n c b A n c
 have e_t : w.heap.size ≤ v1.heap.size := hb.size
 clear q_a q_f q_d
 obtain ⟨x_a, x_f, x_d, h, h2, hg⟩ := mv6 hb1 x_a x_f x_d h h2 hg
 replace hb := bthen hb hb1
 clear hb1
 generalize v1.alloc (.cells #[.bool b, .slice A n c, .bool b, .slice A n c] 83) = v2 at *
 have q_a := x_a.al
 have q_f := x_f.al
 have q_d := x_d.al
 have q_t := x_t.al
 go_upto_region 3 with fail
 have hb1 := below_alloc v2 (.cells #[.int .i64 (-1)] 2)
 have l_a_k := x_a.lt
 have l_f_k := x_f.lt
 have l_d_k := x_d.lt
 have l_t_k := x_t.lt
 have x_k := Cx.new v2 (.int .i64 (-1)) (2)
 have e_k : w.heap.size ≤ v2.heap.size := hb.size
 clear q_a q_f q_d q_t
 obtain ⟨x_a, x_f, x_d, x_t, h, h2, hg⟩ := mv7 hb1 x_a x_f x_d x_t h h2 hg
 replace hb := bthen hb hb1
 clear hb1
 generalize v2.alloc (.cells #[.int .i64 (-1)] 2) = v3 at *
 have q_a := x_a.al
 have q_f := x_f.al
 have q_d := x_d.al
 have q_t := x_t.al
 have q_k := x_k.al
 have ho : BD ≤ w.heap.size + 1 ∧ w.heap.size + 1 < w.heap.size + 1 + 1 ∧ w.heap.size + 1 + 1 < v1.heap.size ∧ v1.heap.size < v2.heap.size ∧ v2.heap.size < v3.heap.size := by have := x_k.lt; omega
 go_wp2
 refine bodyPost_ret (v := .func (.func 136) #[] #[.pointer (some ⟨v2.heap.size, 0, none⟩), .pointer (some ⟨v1.heap.size, 0, none⟩), .pointer (some ⟨w.heap.size + 1, 0, none⟩), .pointer (some ⟨w.heap.size + 1 + 1, 0, none⟩)]) (by simp [results, Tryz.results103, go_sem]) rfl ?_
 exact ⟨_, _, _, _, _, rfl, gen_terms HD HP.out HS.out hN ho, ⟨⟨x_k, ⟨_, _, _, _, _, _, _, _, x_t, h, h⟩, x_f, h2, x_d, hg⟩, Nat.le_refl _, TmI.keep (by omega) (by omega) (by omega) (by omega) (by omega)⟩, fun b e => by omega, fun v v' g hg1 hD h hf => ⟨TmI.one (by omega) (by omega) (by omega) (by omega) v v' 0 (fun q => hD v v' q hf) h.1 hf, Nat.le_trans h.2.1 hf.size, h.2.2⟩, hb⟩

set_option maxRecDepth 100000 in
set_option maxHeartbeats 16000000 in
theorem Kodds_any {b : Bool} {A : Option Addr} {n c : Nat} {X : Int} {w : World} (h : Zr w b A n c X 20) (Q N : Nat) (hQ : Q ≤ 1200) (hX : 0 ≤ X ∧ X ≤ twP Q) (hN : N ≤ 1000) :
  Calls Tryz.prog 68 #[.agg #[.bool b, .slice A n c], .int .i64 (Q : Nat)] w (GNew (taC X Q) (taD X Q) N w) := by
 have hsi := ta_si hX.1 hX.2 hQ
 have hsq := tw_sq Q
 have hpos := ta_pos Q
 rw [← odC_ta, ← odD_ta]
 obtain ⟨S, hS⟩ : ∃ S, twP Q * twP Q = S := ⟨_, rfl⟩
 have HU : Hid (∀ k, Si (dnS X (X * X) (fun _ => S) k) 20 ∧ Si (upS X (X * X) (fun _ => S) k) 20) := Lib.hid (by rw [← hS]; exact fun k => (hsi k).1)
 have HC : Hid (∀ k, Si (odC (dnS X (X * X) (fun _ => S)) k) 20 ∧ Si (odD (upS X (X * X) (fun _ => S)) k) 20) := Lib.hid (by rw [← hS]; exact fun k => (hsi k).2)
 have HSQ : Hid (1 * (2 : Int) ^ sc (2 * (Q : Int)) = S) := Lib.hid (by rw [← hS]; exact hsq.elim id (fun h => by omega))
 have HP : Hid (0 < S) := Lib.hid (by rw [← hS]; exact hpos)
 rw [hS]
 clear hS hsi hsq hpos hX
 have w1 : IntKind.i64.wrap (2 * (Q : Int)) = 2 * Q := wrapK (by omega) (by omega)
 go_enter Tryz.func68, Tryz.ntmps68
 go_upto_region 1 with fail
 have x_a : Bx (w.alloc (.cells #[.bool b, .slice A n c] 25)) (w.heap.size) b A n c := by have := Bx.new w b A n c; simpa using this
 have hb : Below w.heap.size w (w.alloc (.cells #[.bool b, .slice A n c] 25)) := (Below.alloc (Below.refl w.heap.size w) (by simp) (.cells #[.bool b, .slice A n c] 25))
 generalize w.alloc (.cells #[.bool b, .slice A n c] 25) = v1 at *
 replace h := h.keep hb
 have q_a := x_a.al
 go_wp2_with fail
 with_reducible refine (ZOf_any 1 (by omega) (by omega)).mono ?_
 rintro e v2 ⟨A9, n9, c9, rfl, z9, hb1⟩
 obtain ⟨x_a, h⟩ := mv2 hb1 x_a h
 replace hb := bthen hb hb1
 clear hb1
 replace q_a := x_a.al
 go_wp2_with fail
 with_reducible refine (ZShl_any z9.zr (2 * (Q : Int)) 129 (by omega) (by omega)).mono ?_
 rintro e v3 ⟨A8, n8, c8, rfl, z8, hb1⟩
 obtain ⟨x_a, h, z9⟩ := mv3 hb1 x_a h z9
 replace hb := bthen hb hb1
 clear hb1
 replace q_a := x_a.al
 rw [HSQ.out] at z8 ⊢
 go_upto_region 2 with fail
 have hb1 := below_alloc v3 (.cells #[.bool (ngB S), .slice A8 n8 c8] 25)
 have l_a_s := x_a.lt
 have x_s := Bx.new v3 (ngB S) A8 n8 c8
 have e_s : w.heap.size ≤ v3.heap.size := hb.size
 clear q_a
 obtain ⟨x_a, h, z9, z8⟩ := mv4 hb1 x_a h z9 z8
 replace hb := bthen hb hb1
 clear hb1
 generalize v3.alloc (.cells #[.bool (ngB S), .slice A8 n8 c8] 25) = v4 at *
 have q_a := x_a.al
 have q_s := x_s.al
 clear z9
 have hgd := gs_odd x_s z8
 have one : ∀ g, v3.heap.size ≠ g → ∀ u u', Gs (v3.heap.size + 1) (fun w _ => Bx w (v3.heap.size) (ngB S) A8 n8 c8 ∧ Zn w A8 n8 c8 S 129) u 0 → Fr (fun b => b = g) u u' → Gs (v3.heap.size + 1) (fun w _ => Bx w (v3.heap.size) (ngB S) A8 n8 c8 ∧ Zn w A8 n8 c8 S 129) u' 0 := fun g hne u u' h hf => ⟨⟨h.1.1.via hf hne, h.1.2.via hf⟩, Nat.le_trans h.2.1 hf.size, h.2.2⟩
 have ONE := Lib.hid one; clear one
 have l_a_n := x_a.lt
 have l_s_n := x_s.lt
 have hbz := hb.size
 have hv := Below.refl v4.heap.size v4
 go_cut [6] (fun s9 wx => CgNew (dnS X (X * X) (fun _ => S)) (upS X (X * X) (fun _ => S)) N v4 s9 wx)
 case first =>
  clear q_s
  go_region_held3 (fun w' => w'.cell? ⟨w.heap.size, 0, none⟩ = some (.bool b) ∧ w'.cell? ⟨w.heap.size, 1, none⟩ = some (.slice A n c))
   (first | (with_reducible exact ⟨x_a.drew.c0, x_a.drew.c1⟩) | (with_reducible exact ⟨x_a.c0, x_a.c1⟩) | (with_reducible exact ⟨(x_a.alloc _).c0, (x_a.alloc _).c1⟩) | (with_reducible exact ⟨(x_a.alloc _).drew.c0, (x_a.alloc _).drew.c1⟩) | (with_reducible exact ⟨(x_a.asideC (by omega)).c0, (x_a.asideC (by omega)).c1⟩) | (with_reducible exact ⟨((x_a.alloc _).asideC (by omega)).c0, ((x_a.alloc _).asideC (by omega)).c1⟩))
   (first | (go_at_call 96; (with_reducible refine (ZMul_any h.drw h.drw 40 (by omega) (by omega)).mono ?_); rintro e v5 ⟨A7, n7, c7, rfl, z7, hb1⟩; replace hb1 := undrew hb1; (try replace x_n := x_n.keep hb1); replace hv := bthen hv hb1; have hvs_v5 := hv.size; obtain ⟨x_a, x_s, h, z8, hgd⟩ := mv5 hb1 x_a x_s h z8 hgd; replace hb := bthen hb hb1; clear hb1; replace q_a := x_a.al; (try (have q_n := x_n.al))) | (go_at_call 96; (with_reducible refine (ZMul_any (h.keep (below_alloc v4 (.cells #[.nilFunc] 85))).drw (h.keep (below_alloc v4 (.cells #[.nilFunc] 85))).drw 40 (by omega) (by omega)).mono ?_); rintro e v5 ⟨A7, n7, c7, rfl, z7, hb1⟩; replace hb1 := undrew hb1; have x_n := (Cx.new v4 .nilFunc 85 (by intro y h; cases h)).keep hb1; replace hb1 := bthen (below_alloc v4 (.cells #[.nilFunc] 85)) hb1; replace hv := bthen hv hb1; have hvs_v5 := hv.size; obtain ⟨x_a, x_s, h, z8, hgd⟩ := mv5 hb1 x_a x_s h z8 hgd; replace hb := bthen hb hb1; clear hb1; replace q_a := x_a.al; (try (have q_n := x_n.al))) | (go_at_call 103; (try have hgp := x_n.lt); (with_reducible refine (Kterms2_any h z7.zr dv_odd hgd N (fun _ => HP.out) HU.out hN).mono ?_); rintro e v6 ⟨fid2, caps2, P2, I2, B2, rfl, G2, hg2, hP2, hK2, hb1⟩; (try replace x_n := x_n.keep hb1); replace hv := bthen hv hb1; have hvs_v6 := hv.size; obtain ⟨x_a, x_s, h, z8, hgd, z7⟩ := mv6 hb1 x_a x_s h z8 hgd z7; replace hb := bthen hb hb1; clear hb1; replace q_a := x_a.al; (try (have q_n := x_n.al)); have y_n := Cx.new v6 .nilFunc 85 (by intro y h; cases h); have yq_n := y_n.c0; have yf_n := y_n.fr 0) | (go_at_call 103; have hgp : v5.heap.size < (v5.alloc (.cells #[.nilFunc] 85)).heap.size := (by simp); (with_reducible refine (Kterms2_any (h.keep (below_alloc v5 (.cells #[.nilFunc] 85))) (z7.keep (below_alloc v5 (.cells #[.nilFunc] 85))).zr dv_odd (hgd.keep (below_alloc v5 (.cells #[.nilFunc] 85))) N (fun _ => HP.out) HU.out hN).mono ?_); rintro e v6 ⟨fid2, caps2, P2, I2, B2, rfl, G2, hg2, hP2, hK2, hb1⟩; have x_n := (Cx.new v5 .nilFunc 85 (by intro y h; cases h)).keep hb1; replace hb1 := bthen (below_alloc v5 (.cells #[.nilFunc] 85)) hb1; replace hv := bthen hv hb1; have hvs_v6 := hv.size; obtain ⟨x_a, x_s, h, z8, hgd, z7⟩ := mv6 hb1 x_a x_s h z8 hgd z7; replace hb := bthen hb hb1; clear hb1; replace q_a := x_a.al; (try (have q_n := x_n.al)); have y_n := Cx.new v6 .nilFunc 85 (by intro y h; cases h); have yq_n := y_n.c0; have yf_n := y_n.fr 0))
  all_goals go_wp2_with fail
  all_goals go_meet
  all_goals first | (with_reducible exact CgNew.new hv G2 hg2 (fun b hb => by have := hP2 b hb; omega)) | (with_reducible exact CgNew.put hv x_n G2 (fun b hb => ⟨by have := hP2 b hb; omega, by have := hP2 b hb; omega⟩) (by omega) (hK2 _ _ _ hgp (ONE.out _ (by omega)) hg2 ((Fr.refl _).putC (Or.inl rfl) x_n)))
 case rest =>
  obtain ⟨gp, fid2, caps2, P2, I2, B2, rfl, x_n, G2, hg2, hP2, e_n, hp2, hb1⟩ := hcut
  clear hv
  obtain ⟨x_a, x_s, h, z8, hgd⟩ := mv5 hb1 x_a x_s h z8 hgd
  replace hb := bthen hb hb1
  clear hb1
  replace q_a := x_a.al
  clear q_a
  generalize wc = v7 at *
  have q_a := x_a.al
  have q_n := x_n.al
  go_upto_region 4 with fail
  have hBo := hg2.2.1
  have hb1 := below_alloc v7 (.cells #[.int .i64 (-1)] 2)
  have l_a_o := x_a.lt
  have l_s_o := x_s.lt
  have l_n_o := x_n.lt
  have x_o := Cx.new v7 (.int .i64 (-1)) (2)
  have e_o : w.heap.size ≤ v7.heap.size := hb.size
  clear q_a q_n
  obtain ⟨x_a, x_s, x_n, h, z8, hgd, hg2⟩ := mv7 hb1 x_a x_s x_n h z8 hgd hg2
  replace hb := bthen hb hb1
  clear hb1
  generalize v7.alloc (.cells #[.int .i64 (-1)] 2) = v8 at *
  have q_a := x_a.al
  have q_n := x_n.al
  have q_o := x_o.al
  go_wp2
  refine bodyPost_ret (v := .func (.func 105) #[] #[.pointer (some ⟨v7.heap.size, 0, none⟩), .pointer (some ⟨gp, 0, none⟩)]) (by simp [results, Tryz.results68, go_sem]) rfl ?_
  exact ⟨_, _, _, _, _, rfl, gen_odd (B := v8.heap.size) G2 HC.out hN ⟨hBo, by omega, x_o.lt⟩ hp2, ⟨⟨x_o, x_n, hg2⟩, Nat.le_refl _, OdI.keep x_o.lt x_n.lt hg2.2.1⟩, fun b e => e.elim (fun e => by omega) (fun e => by have := hP2 b e; have := hbz; omega), hb⟩

end Go.Proofs.YtiikmjnnlckiiaaGreat
