/-
 rows: oddPowers, its closure.
-/
import Derived.Test.YtdonaominffpnaaGreatDoorKsum
namespace Go.Proofs.YtdonaominffpnaaGreatDoor
set_option linter.unusedVariables false
open Go.RowKit
end Go.Proofs.YtdonaominffpnaaGreatDoor
namespace Go.Proofs.YtdonaominffpnaaGreatDoor
variable {B BI N fid go gp : Nat}
set_option maxRecDepth 100000
set_option maxHeartbeats 16000000
set_option linter.unusedVariables false
open Go.RowKit
def OdI (go gp fid : Nat) (caps : Array Value) (BI : Nat) (II : World → Nat → Prop) (w : World) (k : Nat) : Prop :=
 Cx w go (.int .i64 (2 * (k : Int) - 1)) 2 ∧ Cx w gp (.func (.func fid) #[] caps) 186 ∧ Gs BI II w k
theorem OdI.keep {caps : Array Value} {II : World → Nat → Prop} (h1 : go < B) (h2 : gp < B) (h3 : BI ≤ B) (v v' : World) (j : Nat) (h : OdI go gp fid caps BI II v j) (hf : Fr (fun b => B ≤ b) v v') : OdI go gp fid caps BI II v' j :=
 ⟨h.1.via hf (by omega), h.2.1.via hf (by omega), h.2.2.via hf (fun b hb => by omega)⟩
def odC (f : Nat → Int) (k : Nat) : Int := f k / (2 * k + 1)
def odD (g : Nat → Int) (k : Nat) : Int := -(-g k / (2 * k + 1))
theorem ent_odd2 : ∀ (args : Array Value) (w : World), (callFunc 242 args).run Tryz.prog w = .ok (.enter 242 args) w := enters_of Tryz.func242 (by kernel_rfl) rfl
theorem Kodd2_any {caps : Array Value} {PI : Nat → Prop} {II : World → Nat → Prop} {f g : Nat → Int} (G : Gen PI BI fid caps II f g N) (hs : ∀ k, Si (odC f k) 20 ∧ Si (odD g k) 20) (hN : N ≤ 1000) (ho : BI ≤ go ∧ gp < go ∧ go < B) (hp : ¬ PI gp) (w : World) (k : Nat) (hk : k ≤ N) (hG : Gs B (OdI go gp fid caps BI II) w k) :
  Calls Tryz.prog 242 #[.pointer (some ⟨go, 0, none⟩), .pointer (some ⟨gp, 0, none⟩)] w (GPost (fun b => b = go ∨ PI b) B (OdI go gp fid caps BI II) (odC f) (odD g) w k) := by
 obtain ⟨⟨x_o, x_p, hg⟩, hB, hkeep⟩ := hG
 have HK := Lib.hid hkeep; clear hkeep
 have HE := G.ent
 have hgo : ¬ PI go := fun h => by have := G.lt _ h; omega
 obtain ⟨U, hU⟩ : ∃ e, f k = e := ⟨_, rfl⟩
 obtain ⟨V, hV⟩ : ∃ e, g k = e := ⟨_, rfl⟩
 obtain ⟨C, hC⟩ : ∃ e, odC f k = e := ⟨_, rfl⟩
 obtain ⟨D, hD⟩ : ∃ e, odD g k = e := ⟨_, rfl⟩
 have HC : Hid (U / (2 * (k : Int) + 1) = C) := Lib.hid (by rw [← hU]; exact hC)
 have HD : Hid (-(-V / (2 * (k : Int) + 1)) = D) := Lib.hid (by rw [← hV]; exact hD)
 have B1 : Hid (Si C 20) := Lib.hid (by rw [← hC]; exact (hs _).1)
 have B2 : Hid (Si D 20) := Lib.hid (by rw [← hD]; exact (hs _).2)
 have EU := Lib.hid hU; have EV := Lib.hid hV; have EC := Lib.hid hC; have ED := Lib.hid hD
 clear hU hV hC hD hs
 have w1 : IntKind.i64.wrap (2 * (k : Int) - 1 + 2) = 2 * k + 1 := by rw [show 2 * (k : Int) - 1 + 2 = 2 * k + 1 by omega]; exact wrapK (by omega) (by omega)
 go_enter Tryz.func242, Tryz.ntmps242
 have hl_o := x_o.lt
 have hl_p := x_p.lt
 go_upto_region 1 with fail
 have x_r : Kx (w.alloc (.cells #[.bool false, .slice none 0 0, .bool false, .slice none 0 0] 190)) (w.heap.size) false none 0 0 false none 0 0 := by have := Kx.new w false none 0 0 false none 0 0; simpa using this
 have hb : Below w.heap.size w (w.alloc (.cells #[.bool false, .slice none 0 0, .bool false, .slice none 0 0] 190)) := (Below.alloc (Below.refl w.heap.size w) (by simp) (.cells #[.bool false, .slice none 0 0, .bool false, .slice none 0 0] 190))
 generalize w.alloc (.cells #[.bool false, .slice none 0 0, .bool false, .slice none 0 0] 190) = v1 at *
 obtain ⟨hg, x_o, x_p⟩ := mv3 hb hg x_o x_p
 replace hb := Fr.of (P := (fun b => b = go ∨ PI b)) hb
 have q_o := x_o.al
 have q_p := x_p.al
 have q_r := x_r.al
 go_upto_region 2 with fail
 replace x_p := x_p.asideC (v' := (.int .i64 (2 * (k : Int) + 1))) (g := go) (by omega)
 replace x_r := x_r.asideC (v' := (.int .i64 (2 * (k : Int) + 1))) (g := go) (by omega)
 replace hg := hg.putC (v' := (.int .i64 (2 * (k : Int) + 1))) (by omega) x_o
 replace hb := hb.putC (v' := (.int .i64 (2 * (k : Int) + 1))) (Or.inl (Or.inl rfl)) x_o
 replace x_o := x_o.put (.int .i64 (2 * (k : Int) + 1)) (2)
 clear q_o q_p q_r
 generalize v1.setCell ⟨go, 0, none⟩ (.int .i64 (2 * (k : Int) + 1)) = v2 at *
 have q_o := x_o.al
 have q_p := x_p.al
 have q_r := x_r.al
 go_wp2_with fail
 go_region_held3 (fun w' => w'.cell? ⟨go, 0, none⟩ = some (.int .i64 (2 * (k : Int) + 1)) ∧ w'.cell? ⟨gp, 0, none⟩ = some (.func (.func fid) #[] caps))
  (first | (with_reducible exact ⟨x_o.drew.c0, x_p.drew.c0⟩) | (with_reducible exact ⟨x_o.c0, x_p.c0⟩) | (with_reducible exact ⟨(x_o.asideK (by omega)).c0, (x_p.asideK (by omega)).c0⟩))
  (first | (go_at_call 22; (with_reducible refine (ZOf_any (2 * (k : Int) + 1) (by omega) (by omega)).mono ?_); rintro e v4 ⟨A7, n7, c7, rfl, z7, hb1⟩; obtain ⟨x_o, x_p, x_r, z5, z6, hg2⟩ := mv6 hb1 x_o x_p x_r z5 z6 hg2; replace hb := hb.thenB hb1; clear hb1; replace q_o := x_o.al; replace q_p := x_p.al; replace q_r := x_r.al) | (go_at_call 235; (with_reducible refine (Kover_any z5 z6 z7.zr (by omega) (by omega) (by omega) (by omega)).mono ?_); rintro e v5 ⟨A8, n8, c8, A9, n9, c9, rfl, z8, z9, hb1⟩; obtain ⟨x_o, x_p, x_r, z5, z6, hg2, z7⟩ := mv7 hb1 x_o x_p x_r z5 z6 hg2 z7; replace hb := hb.thenB hb1; clear hb1; replace q_o := x_o.al; replace q_p := x_p.al; replace q_r := x_r.al; rw [HC.out] at z8 ⊢; rw [HD.out] at z9 ⊢; replace z8 := z8.slim B1.out; replace z9 := z9.slim B2.out) | ((with_reducible refine (G.step _ k (by omega) hg.drw).mono ?_); rintro e v3 ⟨bA, AA, nA, cA, bC, AC, nC, cC, rfl, z5, z6, hg2, hb1⟩; replace hb1 := frdrew hb1; replace x_o := x_o.via hb1 hgo; replace x_p := x_p.via hb1 hp; replace x_r := x_r.via hb1 (fun hq => by have := G.lt _ hq; omega); replace hb := hb.trans (hb1.mono (fun b _ e => Or.inr e)); clear hb1; replace q_o := x_o.al; replace q_p := x_p.al; replace q_r := x_r.al; rw [EU.out] at z5; rw [EV.out] at z6))
 go_wp2
 replace x_o := x_o.asideK (b' := (ngB C)) (A' := A8) (n' := n8) (c' := c8) (p' := (ngB D)) (B' := A9) (m' := n9) (d' := c9) (g := w.heap.size) (by omega)
 replace x_p := x_p.asideK (b' := (ngB C)) (A' := A8) (n' := n8) (c' := c8) (p' := (ngB D)) (B' := A9) (m' := n9) (d' := c9) (g := w.heap.size) (by omega)
 replace z5 := z5.putK (b' := (ngB C)) (A' := A8) (n' := n8) (c' := c8) (p' := (ngB D)) (B' := A9) (m' := n9) (d' := c9) x_r
 replace z6 := z6.putK (b' := (ngB C)) (A' := A8) (n' := n8) (c' := c8) (p' := (ngB D)) (B' := A9) (m' := n9) (d' := c9) x_r
 replace hg2 := hg2.putK (b' := (ngB C)) (A' := A8) (n' := n8) (c' := c8) (p' := (ngB D)) (B' := A9) (m' := n9) (d' := c9) (by omega) x_r
 replace z7 := z7.putK (b' := (ngB C)) (A' := A8) (n' := n8) (c' := c8) (p' := (ngB D)) (B' := A9) (m' := n9) (d' := c9) x_r
 replace z8 := z8.putK (b' := (ngB C)) (A' := A8) (n' := n8) (c' := c8) (p' := (ngB D)) (B' := A9) (m' := n9) (d' := c9) x_r
 replace z9 := z9.putK (b' := (ngB C)) (A' := A8) (n' := n8) (c' := c8) (p' := (ngB D)) (B' := A9) (m' := n9) (d' := c9) x_r
 replace hb := hb.putK (b' := (ngB C)) (A' := A8) (n' := n8) (c' := c8) (p' := (ngB D)) (B' := A9) (m' := n9) (d' := c9) (Or.inr (by omega)) x_r
 replace x_r := x_r.put (ngB C) A8 n8 c8 (ngB D) A9 n9 c9
 clear q_o q_p q_r
 generalize (((v5.setCell ⟨w.heap.size, 0, none⟩ (.bool (ngB C))).setCell ⟨w.heap.size, 1, none⟩ (.slice A8 n8 c8)).setCell ⟨w.heap.size, 2, none⟩ (.bool (ngB D))).setCell ⟨w.heap.size, 3, none⟩ (.slice A9 n9 c9) = v6 at *
 have q_o := x_o.al
 have q_p := x_p.al
 have q_r := x_r.al
 have e2 : 2 * ((k + 1 : Nat) : Int) - 1 = 2 * k + 1 := by omega
 skip
 refine bodyPost_ret (v := .agg #[.bool (ngB C), .slice A8 n8 c8, .bool (ngB D), .slice A9 n9 c9]) (by simp [results, Tryz.results242, go_sem, q_r]) rfl ?_
 exact ⟨_, _, _, _, _, _, _, _, rfl, by rw [EC.out]; exact z8.zr, by rw [ED.out]; exact z9.zr, ⟨⟨by rw [e2]; exact x_o, x_p, hg2⟩, Nat.le_trans hB hb.size, HK.out⟩, hb⟩
theorem gen_odd {caps : Array Value} {PI : Nat → Prop} {II : World → Nat → Prop} {f g : Nat → Int} (G : Gen PI BI fid caps II f g N) (hs : ∀ k, Si (odC f k) 20 ∧ Si (odD g k) 20) (hN : N ≤ 1000) (ho : BI ≤ go ∧ gp < go ∧ go < B) (hp : ¬ PI gp) : Gen (fun b => b = go ∨ PI b) B 242 #[.pointer (some ⟨go, 0, none⟩), .pointer (some ⟨gp, 0, none⟩)] (OdI go gp fid caps BI II) (odC f) (odD g) N :=
 ⟨ent_odd2, fun b e => e.elim (fun e => by omega) (fun e => by have := G.lt _ e; omega), fun w k hk hG => Kodd2_any G hs hN ho hp w k hk hG⟩
end Go.Proofs.YtdonaominffpnaaGreatDoor
