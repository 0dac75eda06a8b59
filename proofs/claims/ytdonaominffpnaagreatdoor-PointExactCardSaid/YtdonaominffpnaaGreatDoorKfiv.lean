/-
 rows: the five functions: numbers, errors.
-/
import Derived.Test.YtdonaominffpnaaGreatDoorKodd
import Derived.Test.YtdonaominffpnaaGreatDoorKtrm
import Derived.Laws.EntriesVeiled
import Derived.Test.YtdonaominffpnaaGreatDoorKsum
namespace Go.Proofs.YtdonaominffpnaaGreatDoor
variable {A : Option Addr} {B BD N c fid gs n q : Nat} {M S X t : Int} {V v w : World} {b : Bool}
set_option maxRecDepth 100000
set_option maxHeartbeats 16000000
set_option linter.unusedVariables false
open Go.RowKit
def CgNew (f g : Nat → Int) (N : Nat) (V : World) (s9 : Value) (wx : World) : Prop :=
 ∃ gp fid caps P I B, s9 = .pointer (some ⟨gp, 0, none⟩) ∧ Cx wx gp (.func (.func fid) #[] caps) 186 ∧ Gen P B fid caps I f g N ∧ Gs B I wx 0 ∧ (∀ b, P b → V.heap.size ≤ b) ∧ V.heap.size ≤ gp ∧ ¬ P gp ∧ Below V.heap.size V wx
theorem CgNew.put {f g : Nat → Int} {gp : Nat} {caps : Array Value} {P : Nat → Prop} {I : World → Nat → Prop} {u : Value} (hv : Below V.heap.size V v) (x : Cx v gp u 186) (G : Gen P B fid caps I f g N) (hP : ∀ b, P b → V.heap.size ≤ b ∧ b ≠ gp) (hV : V.heap.size ≤ gp) (hI : Gs B I (v.setCell ⟨gp, 0, none⟩ (.func (.func fid) #[] caps)) 0) : CgNew f g N V (.pointer (some ⟨gp, 0, none⟩)) (v.setCell ⟨gp, 0, none⟩ (.func (.func fid) #[] caps)) :=
 ⟨gp, fid, caps, P, I, B, rfl, x.put _ 186 (by intro y h; cases h), G, hI, fun b hb => (hP b hb).1, hV, fun hp => (hP gp hp).2 rfl, hv.setCell hV _⟩
theorem CgNew.new {f g : Nat → Int} {caps : Array Value} {P : Nat → Prop} {I : World → Nat → Prop} (hv : Below V.heap.size V v) (G : Gen P B fid caps I f g N) (hg : Gs B I v 0) (hP : ∀ b, P b → V.heap.size ≤ b) : CgNew f g N V (.pointer (some ⟨v.heap.size, 0, none⟩)) (v.alloc (.cells #[.func (.func fid) #[] caps] 186)) :=
 ⟨v.heap.size, fid, caps, P, I, B, rfl, Cx.new v _ _ (by intro y h; cases h), G, hg.keep (below_alloc v _), hP, hv.size, fun hp => by have := G.lt _ hp; have := hg.2.1; omega, bthen hv (below_alloc v _)⟩
def GNew2 (BD : Nat) (ID : World → Nat → Prop) (f g : Nat → Int) (N : Nat) (w : World) (e : Ending) (w' : World) : Prop :=
 ∃ fid caps P I B, e = .returned (.func (.func fid) #[] caps) ∧ Gen P B fid caps I f g N ∧ Gs B I w' 0 ∧ (∀ b, P b → w.heap.size ≤ b) ∧ (∀ v v' g, g < w.heap.size → (∀ u u', Gs BD ID u 0 → Fr (fun b => b = g) u u' → Gs BD ID u' 0) → Gs B I v 0 → Fr (fun b => b = g) v v' → Gs B I v' 0) ∧ Below w.heap.size w w'
theorem TmI.one {gk gt gf gd nF cF g : Nat} {bF : Bool} {AF : Option Addr} {caps : Array Value} {ID : World → Nat → Prop} {f f2 : Nat → Int} (h1 : gk ≠ g) (h2 : gt ≠ g) (h3 : gf ≠ g) (h4 : gd ≠ g) (v v' : World) (j : Nat) (hD : Gs BD ID v 0 → Gs BD ID v' 0) (h : TmI gk gt gf gd bF AF nF cF M fid caps BD ID f f2 v j) (hf : Fr (fun b => b = g) v v') : TmI gk gt gf gd bF AF nF cF M fid caps BD ID f f2 v' j := by
 obtain ⟨a1, ⟨b, A, n, c, b2, A2, n2, c2, a2, a3, a4⟩, a5, a6, a7, a8⟩ := h
 exact ⟨a1.via hf h1, ⟨b, A, n, c, b2, A2, n2, c2, a2.via hf h2, a3.via hf, a4.via hf⟩, a5.via hf h3, a6.via hf, a7.via hf h4, hD a8⟩
theorem dv_odd : Dv (gs + 1) 241 #[.pointer (some ⟨gs, 0, none⟩)] (fun w _ => Bx w gs (ngB S) A n c ∧ Zn w A n c S 129) (fun _ => S) :=
 ⟨ent_odd, fun w k hk hg => KoddD_any hg.1.1 hg.1.2⟩
theorem gs_odd (x : Bx w gs (ngB S) A n c) (z : Zn w A n c S 129) : Gs (gs + 1) (fun w _ => Bx w gs (ngB S) A n c ∧ Zn w A n c S 129) w 0 :=
 ⟨⟨x, z⟩, x.lt, fun v v' j h hf => ⟨h.1.via hf (by omega), h.2.via hf⟩⟩
theorem tw_sq (Q : Nat) : 1 * (2 : Int) ^ sc (2 * (Q : Int)) = twP Q * twP Q ∨ 2400 < 2 * Q := by
 rcases (show 2 * Q ≤ 2400 ∨ 2400 < 2 * Q by omega) with h | h
 ·left
  rw [show sc (2 * (Q : Int)) = Q + Q by unfold sc; omega, Int.pow_add, Int.one_mul]; rfl
 ·exact .inr h
theorem odC_ta (X : Int) (Q : Nat) : odC (dnS X (X * X) (fun _ => twP Q * twP Q)) = taC X Q := rfl
theorem odD_ta (X : Int) (Q : Nat) : odD (upS X (X * X) (fun _ => twP Q * twP Q)) = taD X Q := rfl
theorem ta_cd2 (h0 : 0 ≤ t) (h : t ≤ twP q) (k : Nat) : 0 ≤ taC t q k ∧ taC t q k ≤ taD t q k ∧ taD t q k ≤ twP q := by
 have hb := ta_bd h0 h k
 refine ⟨ta_c_nonneg h0 k, ta_c_d h0 k, ?_⟩
 unfold taD
 rw [up_le (two_pos k)]
 have := Int.mul_le_mul_of_nonneg_left (show (1 : Int) ≤ 2 * k + 1 by omega) (Int.le_of_lt (tw_pos q))
 omega
theorem ta_si (h0 : 0 ≤ t) (h : t ≤ twP q) (hq : q ≤ 1200) (k : Nat) : (Si (taU t q k) 20 ∧ Si (taV t q k) 20) ∧ (Si (taC t q k) 20 ∧ Si (taD t q k) 20) := by
 have a := ta_bd h0 h k
 have b := ta_cd2 h0 h k
 have p := tw_pos q
 exact ⟨⟨si_tw (K := 1) (by omega) hq (by omega) (by omega), si_tw (K := 1) (by omega) hq (by omega) (by omega)⟩, si_tw (K := 1) (by omega) hq (by omega) (by omega), si_tw (K := 1) (by omega) hq (by omega) (by omega)⟩
theorem Kterms2_any {b2 : Bool} {A2 : Option Addr} {n2 c2 : Nat} {D : Nat → Int} {caps : Array Value} {ID : World → Nat → Prop} (h : Zr w b A n c X 20) (h2 : Zr w b2 A2 n2 c2 M 40) (HD : Dv BD fid caps ID D) (hg : Gs BD ID w 0) (N : Nat) (hpos : ∀ k, 0 < D k) (hs : ∀ k, Si (dnS X M D k) 20 ∧ Si (upS X M D k) 20) (hN : N ≤ 1000) :
  Calls Tryz.prog 224 #[.agg #[.bool b, .slice A n c], .agg #[.bool b2, .slice A2 n2 c2], .func (.func fid) #[] caps] w (GNew2 BD ID (dnS X M D) (upS X M D) N w) := by
 have hB := hg.2.1
 have HS := Lib.hid hs; have HP := Lib.hid hpos; clear hs hpos
 go_enter Tryz.func224, Tryz.ntmps224
 go_upto_region 1 with fail
 have x_a : Bx (w.alloc (.cells #[.bool b, .slice A n c] 24)) (w.heap.size) b A n c := by have := Bx.new w b A n c; simpa using this
 replace x_a := x_a.alloc (.cells #[.bool b2, .slice A2 n2 c2] 24)
 have x_f : Bx ((w.alloc (.cells #[.bool b, .slice A n c] 24)).alloc (.cells #[.bool b2, .slice A2 n2 c2] 24)) (w.heap.size + 1) b2 A2 n2 c2 := by have := Bx.new (w.alloc (.cells #[.bool b, .slice A n c] 24)) b2 A2 n2 c2; simpa using this
 replace x_a := x_a.alloc (.cells #[.func (.func fid) #[] caps] 47)
 replace x_f := x_f.alloc (.cells #[.func (.func fid) #[] caps] 47)
 have x_d : Cx (((w.alloc (.cells #[.bool b, .slice A n c] 24)).alloc (.cells #[.bool b2, .slice A2 n2 c2] 24)).alloc (.cells #[.func (.func fid) #[] caps] 47)) (w.heap.size + 1 + 1) (.func (.func fid) #[] caps) (47) := by have := Cx.new ((w.alloc (.cells #[.bool b, .slice A n c] 24)).alloc (.cells #[.bool b2, .slice A2 n2 c2] 24)) (.func (.func fid) #[] caps) (47); simpa using this
 have hb : Below w.heap.size w (((w.alloc (.cells #[.bool b, .slice A n c] 24)).alloc (.cells #[.bool b2, .slice A2 n2 c2] 24)).alloc (.cells #[.func (.func fid) #[] caps] 47)) := (Below.alloc (Below.alloc (Below.alloc (Below.refl w.heap.size w) (by simp) (.cells #[.bool b, .slice A n c] 24)) (by simp) (.cells #[.bool b2, .slice A2 n2 c2] 24)) (by simp; omega) (.cells #[.func (.func fid) #[] caps] 47))
 generalize ((w.alloc (.cells #[.bool b, .slice A n c] 24)).alloc (.cells #[.bool b2, .slice A2 n2 c2] 24)).alloc (.cells #[.func (.func fid) #[] caps] 47) = v1 at *
 obtain ⟨h, h2, hg⟩ := mv3 hb h h2 hg
 have q_a := x_a.al
 have q_f := x_f.al
 have q_d := x_d.al
 go_upto_region 2 with fail
 have hb1 := below_alloc v1 (.cells #[.bool b, .slice A n c, .bool b, .slice A n c] 190)
 have l_a_t := x_a.lt
 have l_f_t := x_f.lt
 have l_d_t := x_d.lt
 have x_t := Kx.new v1 b A n c b A n c
 have e_t : w.heap.size ≤ v1.heap.size := hb.size
 clear q_a q_f q_d
 obtain ⟨x_a, x_f, x_d, h, h2, hg⟩ := mv6 hb1 x_a x_f x_d h h2 hg
 replace hb := bthen hb hb1
 clear hb1
 generalize v1.alloc (.cells #[.bool b, .slice A n c, .bool b, .slice A n c] 190) = v2 at *
 have q_a := x_a.al
 have q_f := x_f.al
 have q_d := x_d.al
 have q_t := x_t.al
 go_upto_region 3 with fail
 have hb1 := below_alloc v2 (.cells #[.int .i64 (-1)] 2)
 have l_a_k := x_a.lt
 have l_f_k := x_f.lt
 have l_d_k := x_d.lt
 have l_t_k := x_t.lt
 have x_k := Cx.new v2 (.int .i64 (-1)) (2)
 have e_k : w.heap.size ≤ v2.heap.size := hb.size
 clear q_a q_f q_d q_t
 obtain ⟨x_a, x_f, x_d, x_t, h, h2, hg⟩ := mv7 hb1 x_a x_f x_d x_t h h2 hg
 replace hb := bthen hb hb1
 clear hb1
 generalize v2.alloc (.cells #[.int .i64 (-1)] 2) = v3 at *
 have q_a := x_a.al
 have q_f := x_f.al
 have q_d := x_d.al
 have q_t := x_t.al
 have q_k := x_k.al
 have ho : BD ≤ w.heap.size + 1 ∧ w.heap.size + 1 < w.heap.size + 1 + 1 ∧ w.heap.size + 1 + 1 < v1.heap.size ∧ v1.heap.size < v2.heap.size ∧ v2.heap.size < v3.heap.size := by have := x_k.lt; omega
 go_wp2
 refine bodyPost_ret (v := .func (.func 233) #[] #[.pointer (some ⟨v2.heap.size, 0, none⟩), .pointer (some ⟨v1.heap.size, 0, none⟩), .pointer (some ⟨w.heap.size + 1, 0, none⟩), .pointer (some ⟨w.heap.size + 1 + 1, 0, none⟩)]) (by simp [results, Tryz.results224, go_sem]) rfl ?_
 exact ⟨_, _, _, _, _, rfl, gen_terms HD HP.out HS.out hN ho, ⟨⟨x_k, ⟨_, _, _, _, _, _, _, _, x_t, h, h⟩, x_f, h2, x_d, hg⟩, Nat.le_refl _, TmI.keep (by omega) (by omega) (by omega) (by omega) (by omega)⟩, fun b e => by omega, fun v v' g hg1 hD h hf => ⟨TmI.one (by omega) (by omega) (by omega) (by omega) v v' 0 (fun q => hD v v' q hf) h.1 hf, Nat.le_trans h.2.1 hf.size, h.2.2⟩, hb⟩
theorem Kodds_any (h : Zr w b A n c X 20) (Q N : Nat) (hQ : Q ≤ 1200) (hX : 0 ≤ X ∧ X ≤ twP Q) (hN : N ≤ 1000) :
  Calls Tryz.prog 239 #[.agg #[.bool b, .slice A n c], .int .i64 (Q : Nat)] w (GNew (taC X Q) (taD X Q) N w) := by
 have hsi := ta_si hX.1 hX.2 hQ
 have hsq := tw_sq Q
 have hpos := ta_pos Q
 rw [← odC_ta, ← odD_ta]
 obtain ⟨S, hS⟩ : ∃ S, twP Q * twP Q = S := ⟨_, rfl⟩
 have HU : Hid (∀ k, Si (dnS X (X * X) (fun _ => S) k) 20 ∧ Si (upS X (X * X) (fun _ => S) k) 20) := Lib.hid (by rw [← hS]; exact fun k => (hsi k).1)
 have HC : Hid (∀ k, Si (odC (dnS X (X * X) (fun _ => S)) k) 20 ∧ Si (odD (upS X (X * X) (fun _ => S)) k) 20) := Lib.hid (by rw [← hS]; exact fun k => (hsi k).2)
 have HSQ : Hid (1 * (2 : Int) ^ sc (2 * (Q : Int)) = S) := Lib.hid (by rw [← hS]; exact hsq.elim id (fun h => by omega))
 have HP : Hid (0 < S) := Lib.hid (by rw [← hS]; exact hpos)
 rw [hS]
 clear hS hsi hsq hpos hX
 have w1 : IntKind.i64.wrap (2 * (Q : Int)) = 2 * Q := wrapK (by omega) (by omega)
 go_enter Tryz.func239, Tryz.ntmps239
 go_upto_region 1 with fail
 have x_a : Bx (w.alloc (.cells #[.bool b, .slice A n c] 24)) (w.heap.size) b A n c := by have := Bx.new w b A n c; simpa using this
 have hb : Below w.heap.size w (w.alloc (.cells #[.bool b, .slice A n c] 24)) := (Below.alloc (Below.refl w.heap.size w) (by simp) (.cells #[.bool b, .slice A n c] 24))
 generalize w.alloc (.cells #[.bool b, .slice A n c] 24) = v1 at *
 replace h := h.keep hb
 have q_a := x_a.al
 go_wp2_with fail
 with_reducible refine (ZOf_any 1 (by omega) (by omega)).mono ?_
 rintro e v2 ⟨A9, n9, c9, rfl, z9, hb1⟩
 obtain ⟨x_a, h⟩ := mv2 hb1 x_a h
 replace hb := bthen hb hb1
 clear hb1
 replace q_a := x_a.al
 go_wp2_with fail
 with_reducible refine (ZShl_any z9.zr (2 * (Q : Int)) 129 (by omega) (by omega)).mono ?_
 rintro e v3 ⟨A8, n8, c8, rfl, z8, hb1⟩
 obtain ⟨x_a, h, z9⟩ := mv3 hb1 x_a h z9
 replace hb := bthen hb hb1
 clear hb1
 replace q_a := x_a.al
 rw [HSQ.out] at z8 ⊢
 go_upto_region 2 with fail
 have hb1 := below_alloc v3 (.cells #[.bool (ngB S), .slice A8 n8 c8] 24)
 have l_a_s := x_a.lt
 have x_s := Bx.new v3 (ngB S) A8 n8 c8
 have e_s : w.heap.size ≤ v3.heap.size := hb.size
 clear q_a
 obtain ⟨x_a, h, z9, z8⟩ := mv4 hb1 x_a h z9 z8
 replace hb := bthen hb hb1
 clear hb1
 generalize v3.alloc (.cells #[.bool (ngB S), .slice A8 n8 c8] 24) = v4 at *
 have q_a := x_a.al
 have q_s := x_s.al
 clear z9
 have hgd := gs_odd x_s z8
 have one : ∀ g, v3.heap.size ≠ g → ∀ u u', Gs (v3.heap.size + 1) (fun w _ => Bx w (v3.heap.size) (ngB S) A8 n8 c8 ∧ Zn w A8 n8 c8 S 129) u 0 → Fr (fun b => b = g) u u' → Gs (v3.heap.size + 1) (fun w _ => Bx w (v3.heap.size) (ngB S) A8 n8 c8 ∧ Zn w A8 n8 c8 S 129) u' 0 := fun g hne u u' h hf => ⟨⟨h.1.1.via hf hne, h.1.2.via hf⟩, Nat.le_trans h.2.1 hf.size, h.2.2⟩
 have ONE := Lib.hid one; clear one
 have l_a_n := x_a.lt
 have l_s_n := x_s.lt
 have hbz := hb.size
 have hv := Below.refl v4.heap.size v4
 go_cut [6] (fun s9 wx => CgNew (dnS X (X * X) (fun _ => S)) (upS X (X * X) (fun _ => S)) N v4 s9 wx)
 case first =>
  clear q_s
  go_region_held3 (fun w' => w'.cell? ⟨w.heap.size, 0, none⟩ = some (.bool b) ∧ w'.cell? ⟨w.heap.size, 1, none⟩ = some (.slice A n c))
   (first | (with_reducible exact ⟨x_a.drew.c0, x_a.drew.c1⟩) | (with_reducible exact ⟨x_a.c0, x_a.c1⟩) | (with_reducible exact ⟨(x_a.alloc _).c0, (x_a.alloc _).c1⟩) | (with_reducible exact ⟨(x_a.alloc _).drew.c0, (x_a.alloc _).drew.c1⟩) | (with_reducible exact ⟨(x_a.asideC (by omega)).c0, (x_a.asideC (by omega)).c1⟩) | (with_reducible exact ⟨((x_a.alloc _).asideC (by omega)).c0, ((x_a.alloc _).asideC (by omega)).c1⟩))
   (first | (go_at_call 20; (with_reducible refine (ZMul_any h.drw h.drw 40 (by omega) (by omega)).mono ?_); rintro e v5 ⟨A7, n7, c7, rfl, z7, hb1⟩; replace hb1 := undrew hb1; (try replace x_n := x_n.keep hb1); replace hv := bthen hv hb1; have hvs_v5 := hv.size; obtain ⟨x_a, x_s, h, z8, hgd⟩ := mv5 hb1 x_a x_s h z8 hgd; replace hb := bthen hb hb1; clear hb1; replace q_a := x_a.al; (try (have q_n := x_n.al))) | (go_at_call 20; (with_reducible refine (ZMul_any (h.keep (below_alloc v4 (.cells #[.nilFunc] 186))).drw (h.keep (below_alloc v4 (.cells #[.nilFunc] 186))).drw 40 (by omega) (by omega)).mono ?_); rintro e v5 ⟨A7, n7, c7, rfl, z7, hb1⟩; replace hb1 := undrew hb1; have x_n := (Cx.new v4 .nilFunc 186 (by intro y h; cases h)).keep hb1; replace hb1 := bthen (below_alloc v4 (.cells #[.nilFunc] 186)) hb1; replace hv := bthen hv hb1; have hvs_v5 := hv.size; obtain ⟨x_a, x_s, h, z8, hgd⟩ := mv5 hb1 x_a x_s h z8 hgd; replace hb := bthen hb hb1; clear hb1; replace q_a := x_a.al; (try (have q_n := x_n.al))) | (go_at_call 224; (try have hgp := x_n.lt); (with_reducible refine (Kterms2_any h z7.zr dv_odd hgd N (fun _ => HP.out) HU.out hN).mono ?_); rintro e v6 ⟨fid2, caps2, P2, I2, B2, rfl, G2, hg2, hP2, hK2, hb1⟩; (try replace x_n := x_n.keep hb1); replace hv := bthen hv hb1; have hvs_v6 := hv.size; obtain ⟨x_a, x_s, h, z8, hgd, z7⟩ := mv6 hb1 x_a x_s h z8 hgd z7; replace hb := bthen hb hb1; clear hb1; replace q_a := x_a.al; (try (have q_n := x_n.al)); have y_n := Cx.new v6 .nilFunc 186 (by intro y h; cases h); have yq_n := y_n.c0; have yf_n := y_n.fr 0) | (go_at_call 224; have hgp : v5.heap.size < (v5.alloc (.cells #[.nilFunc] 186)).heap.size := (by simp); (with_reducible refine (Kterms2_any (h.keep (below_alloc v5 (.cells #[.nilFunc] 186))) (z7.keep (below_alloc v5 (.cells #[.nilFunc] 186))).zr dv_odd (hgd.keep (below_alloc v5 (.cells #[.nilFunc] 186))) N (fun _ => HP.out) HU.out hN).mono ?_); rintro e v6 ⟨fid2, caps2, P2, I2, B2, rfl, G2, hg2, hP2, hK2, hb1⟩; have x_n := (Cx.new v5 .nilFunc 186 (by intro y h; cases h)).keep hb1; replace hb1 := bthen (below_alloc v5 (.cells #[.nilFunc] 186)) hb1; replace hv := bthen hv hb1; have hvs_v6 := hv.size; obtain ⟨x_a, x_s, h, z8, hgd, z7⟩ := mv6 hb1 x_a x_s h z8 hgd z7; replace hb := bthen hb hb1; clear hb1; replace q_a := x_a.al; (try (have q_n := x_n.al)); have y_n := Cx.new v6 .nilFunc 186 (by intro y h; cases h); have yq_n := y_n.c0; have yf_n := y_n.fr 0))
  all_goals go_wp2_with fail
  all_goals go_meet
  all_goals first | (with_reducible exact CgNew.new hv G2 hg2 (fun b hb => by have := hP2 b hb; omega)) | (with_reducible exact CgNew.put hv x_n G2 (fun b hb => ⟨by have := hP2 b hb; omega, by have := hP2 b hb; omega⟩) (by omega) (hK2 _ _ _ hgp (ONE.out _ (by omega)) hg2 ((Fr.refl _).putC (Or.inl rfl) x_n)))
 case rest =>
  obtain ⟨gp, fid2, caps2, P2, I2, B2, rfl, x_n, G2, hg2, hP2, e_n, hp2, hb1⟩ := hcut
  clear hv
  obtain ⟨x_a, x_s, h, z8, hgd⟩ := mv5 hb1 x_a x_s h z8 hgd
  replace hb := bthen hb hb1
  clear hb1
  replace q_a := x_a.al
  clear q_a
  generalize wc = v7 at *
  have q_a := x_a.al
  have q_n := x_n.al
  go_upto_region 4 with fail
  have hBo := hg2.2.1
  have hb1 := below_alloc v7 (.cells #[.int .i64 (-1)] 2)
  have l_a_o := x_a.lt
  have l_s_o := x_s.lt
  have l_n_o := x_n.lt
  have x_o := Cx.new v7 (.int .i64 (-1)) (2)
  have e_o : w.heap.size ≤ v7.heap.size := hb.size
  clear q_a q_n
  obtain ⟨x_a, x_s, x_n, h, z8, hgd, hg2⟩ := mv7 hb1 x_a x_s x_n h z8 hgd hg2
  replace hb := bthen hb hb1
  clear hb1
  generalize v7.alloc (.cells #[.int .i64 (-1)] 2) = v8 at *
  have q_a := x_a.al
  have q_n := x_n.al
  have q_o := x_o.al
  go_wp2
  refine bodyPost_ret (v := .func (.func 242) #[] #[.pointer (some ⟨v7.heap.size, 0, none⟩), .pointer (some ⟨gp, 0, none⟩)]) (by simp [results, Tryz.results239, go_sem]) rfl ?_
  exact ⟨_, _, _, _, _, rfl, gen_odd (B := v8.heap.size) G2 HC.out hN ⟨hBo, by omega, x_o.lt⟩ hp2, ⟨⟨x_o, x_n, hg2⟩, Nat.le_refl _, OdI.keep x_o.lt x_n.lt hg2.2.1⟩, fun b e => e.elim (fun e => by omega) (fun e => by have := hP2 b e; have := hbz; omega), hb⟩
end Go.Proofs.YtdonaominffpnaaGreatDoor
namespace Go.Proofs.YtdonaominffpnaaGreatDoor
variable {A : Option Addr} {Q c gq n q : Nat} {X : Int} {b : Bool} {w : World}
set_option linter.unusedVariables false
open Go.RowKit
theorem Zr.upK {j k : Nat} (h : Zr w b A n c X j) (hk : j ≤ k) : Zr w b A n c X k := by
 obtain ⟨l, h1, h2, h3⟩ := h
 exact ⟨l, h1, h2, Nat.le_trans h3 hk⟩
theorem tw_sc (hQ : Q ≤ 1200) : (2 : Int) ^ sc (Q : Int) = twP Q := by rw [show sc (Q : Int) = Q by unfold sc; omega]; rfl
theorem ok_yes {M : Nat} {d : Int} (hQ : Q ≤ 1200) (hM : 1 ≤ M ∧ M ≤ 400) (hX : 0 ≤ X ∧ 2 * X ≤ d * twP Q) : okB X Q M d = true := by
 unfold okB
 rw [tw_sc hQ]
 simp; omega
section
variable {t : Int} {q : Nat}
theorem si1 {x : Int} (hq : q ≤ 1200) (h0 : 0 ≤ x) (h : x ≤ 2 * twP q) : Si x 20 := si_tw (K := 2) (by omega) hq (by omega) (by have := tw_pos q; omega)
theorem si_sum {f : Nat → Int} (hq : q ≤ 1200) (h0 : ∀ k, 0 ≤ f k) (h : ∀ k, f k ≤ twP q) (n : Nat) (hn : n ≤ 2000) : Si (sumI f n) 20 := by
 have b := sum_bd h0 h n
 refine si_tw (K := n) hn hq b.2 ?_
 have := Int.mul_nonneg (show (0 : Int) ≤ n by omega) (Int.le_of_lt (tw_pos q)); omega
end
theorem dv_Exp (hQ : Q ≤ 1200) : Dv (gq + 1) 226 #[.pointer (some ⟨gq, 0, none⟩)] (fun w _ => Cx w gq (.int .i64 (Q : Nat)) 3) (fun k => ((k : Int) + 1) * twP Q) :=
 ⟨ent_Exp, fun w k hk hg => by
  have h := KExpD_any (k := (k : Int) + 1) (q := (Q : Int)) hg.1 ⟨by omega, by omega⟩ ⟨by omega, by omega⟩
  have e : ((k : Int) + 1) * 2 ^ sc ((Q : Int)) = ((k : Int) + 1) * twP Q := by rw [tw_sc hQ]
  rw [e] at h
  exact h⟩
theorem gs_q (x : Cx w gq (.int .i64 (Q : Nat)) 3) : Gs (gq + 1) (fun w _ => Cx w gq (.int .i64 (Q : Nat)) 3) w 0 :=
 ⟨x, x.lt, fun v v' j h hf => h.via hf (by omega)⟩
theorem Kterms_Exp {b2 : Bool} {A2 : Option Addr} {n2 c2 : Nat} (h : Zr w b A n c (twP Q) 20) (h2 : Zr w b2 A2 n2 c2 (X) 40) (hQ : Q ≤ 1200) (hg : Gs (gq + 1) (fun w _ => Cx w gq (.int .i64 (Q : Nat)) 3) w 0) (N : Nat) (HU : ∀ k, Si (exU X Q k) 20 ∧ Si (exV X Q k) 20) (hN : N ≤ 1000) :
  Calls Tryz.prog 224 #[.agg #[.bool b, .slice A n c], .agg #[.bool b2, .slice A2 n2 c2], .func (.func 226) #[] #[.pointer (some ⟨gq, 0, none⟩)]] w (GNew (exU X Q) (exV X Q) N w) :=
 Kterms_any h h2 (dv_Exp hQ) hg N (ex_pos Q) HU hN
end Go.Proofs.YtdonaominffpnaaGreatDoor
