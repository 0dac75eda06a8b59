/-
  The law ZedStands, as a call.
-/
import Derived.Test.YtcoidcbbdibnaaaZown
import Derived.Test.YtcoidcbbdibnaaaZrsmall
namespace Go.Proofs.Ytcoidcbbdibnaaa
open Go.RowKit
set_option linter.unusedVariables false

/-- A reading whose memory is another than block g. -/
def Far (A : Option Addr) (g : Nat) : Prop := ∀ p, A = some p → p.block ≠ g
theorem Rd.turned {w w' : World} {g n c : Nat} {A : Option Addr} {l : List Int} (h : Rd w w.heap.size A n c l) (hf : Far A g) (hg : w.grownBy w' (some g)) : Rd w' w'.heap.size A n c l := by
  refine ⟨h.1, h.2.1, h.2.2.1, h.2.2.2.1, fun hn => ?_⟩
  obtain ⟨b, off, e, hb, hc⟩ := h.at_ hn
  refine ⟨b, off, e, Nat.lt_of_lt_of_le hb hg.size, fun k hk => ?_⟩
  rw [← hc k hk]
  exact World.cell?_of_block (hg.block b hb (fun e9 => by injection e9 with e9; exact hf _ e e9))
theorem Bx.turned {w w' : World} {g k n c : Nat} {b : Bool} {A : Option Addr} (h : Bx w g b A n c) (hg : w.grownBy w' (some k)) (hne : g ≠ k) : Bx w' g b A n c := (hg.block g h.lt (fun e => by injection e with e; exact hne e)).trans h
/-- What the loop keeps: the limbs are there, and nothing else has turned. -/
def OvRel (wS : World) (g L : Nat) (wr : World) : Prop := ∃ X : List Int, X.length = L ∧ Bk wr g X ∧ wS.grownBy wr (some g)
theorem Zcut_own_at {b : Bool} {A : Option Addr} {n c : Nat} {l : List Int} {w : World} (h : Rd w w.heap.size A n c l) (k : Nat) (K : Int) (hK : K = (k : Int)) (hk : k ≤ 1000) :
    Calls Try.prog 6 #[.agg #[.bool b, .slice A n c], .int .i64 K] w (ZcOwn w b l k) := by
  subst hK; exact Zcut_own h k hk
theorem far_of {w : World} {A : Option Addr} {n c g : Nat} {l : List Int} {B : Nat} (h : Rd w B A n c l) (hn : 0 < n) (hg : B ≤ g) : Far A g := by
  obtain ⟨b, off, e, hb, _⟩ := h.at_ hn
  intro p hp
  rw [hp] at e; injection e with e; subst e
  exact Nat.ne_of_lt (Nat.lt_of_lt_of_le hb hg)

set_option maxRecDepth 100000 in
set_option maxHeartbeats 16000000 in
theorem ZedStands_any {b b2 : Bool} {A A2 : Option Addr} {n c n2 c2 : Nat} {l l2 : List Int} {w : World} (h : Rd w w.heap.size A n c l) (h2 : Rd w w.heap.size A2 n2 c2 l2) :
    Calls Try.prog 3 #[.agg #[.bool b, .slice A n c], .agg #[.bool b2, .slice A2 n2 c2]] w fun e w' => e = .returned (.bool true) ∧ Below w.heap.size w w' := by
  go_enter Try.func3, Try.ntmps3
  go_wp2_with fail
  obtain ⟨hb, x_a, x_b⟩ := box2 w b A n c b2 A2 n2 c2
  generalize (w.alloc (.cells #[.bool b, .slice A n c] 24)).alloc (.cells #[.bool b2, .slice A2 n2 c2] 24) = v1 at *
  replace h := h.go hb
  replace h2 := h2.go hb
  have q_a0 := x_a.c0; have q_a1 := x_a.c1; have f_a0 := x_a.fr 0; have f_a1 := x_a.fr 1
  have q_b0 := x_b.c0; have q_b1 := x_b.c1; have f_b0 := x_b.fr 0; have f_b1 := x_b.fr 1
  go_wp2_with fail
  with_reducible refine (Zshown_any _).mono ?_
  rintro e v2 ⟨rfl, hb1⟩
  replace x_a := x_a.keep hb1
  replace x_b := x_b.keep hb1
  replace h := h.go hb1
  replace h2 := h2.go hb1
  replace hb := bthen hb hb1
  clear hb1
  replace q_a0 := x_a.c0; replace q_a1 := x_a.c1; replace f_a0 := x_a.fr 0; replace f_a1 := x_a.fr 1
  replace q_b0 := x_b.c0; replace q_b1 := x_b.c1; replace f_b0 := x_b.fr 0; replace f_b1 := x_b.fr 1
  go_wp2_with fail
  with_reducible refine (Zcut_at h 40 40 rfl (by omega)).mono ?_
  rintro e v3 ⟨Aa_, na_, ca_, rfl, pa, ka, hb1⟩
  replace x_a := x_a.keep hb1
  replace x_b := x_b.keep hb1
  replace h := h.go hb1
  replace h2 := h2.go hb1
  replace hb := bthen hb hb1
  clear hb1
  replace q_a0 := x_a.c0; replace q_a1 := x_a.c1; replace f_a0 := x_a.fr 0; replace f_a1 := x_a.fr 1
  replace q_b0 := x_b.c0; replace q_b1 := x_b.c1; replace f_b0 := x_b.fr 0; replace f_b1 := x_b.fr 1
  clear h
  go_wp2_with fail
  replace x_b := x_b.aside (b' := b) (A' := Aa_) (n' := na_) (c' := ca_) (g := w.heap.size) (by omega)
  replace h2 := h2.sput (b' := b) (A' := Aa_) (n' := na_) (c' := ca_) x_a
  replace pa := pa.sput (b' := b) (A' := Aa_) (n' := na_) (c' := ca_) x_a
  replace hb := put_below (g := w.heap.size) hb (by omega) (.bool b) (.slice Aa_ na_ ca_)
  replace x_a := x_a.put b Aa_ na_ ca_
  clear q_a0 q_a1 f_a0 f_a1 q_b0 q_b1 f_b0 f_b1
  generalize (v3.setCell ⟨w.heap.size, 0, none⟩ (.bool b)).setCell ⟨w.heap.size, 1, none⟩ (.slice Aa_ na_ ca_) = v4 at *
  have q_a0 := x_a.c0; have q_a1 := x_a.c1; have f_a0 := x_a.fr 0; have f_a1 := x_a.fr 1
  have q_b0 := x_b.c0; have q_b1 := x_b.c1; have f_b0 := x_b.fr 0; have f_b1 := x_b.fr 1
  with_reducible refine (Zcut_at h2 40 40 rfl (by omega)).mono ?_
  rintro e v5 ⟨Ab_, nb_, cb_, rfl, pb, kb, hb1⟩
  replace x_a := x_a.keep hb1
  replace x_b := x_b.keep hb1
  replace h2 := h2.go hb1
  replace pa := pa.go hb1
  replace hb := bthen hb hb1
  clear hb1
  replace q_a0 := x_a.c0; replace q_a1 := x_a.c1; replace f_a0 := x_a.fr 0; replace f_a1 := x_a.fr 1
  replace q_b0 := x_b.c0; replace q_b1 := x_b.c1; replace f_b0 := x_b.fr 0; replace f_b1 := x_b.fr 1
  clear h2
  go_wp2_with fail
  replace x_a := x_a.aside (b' := b2) (A' := Ab_) (n' := nb_) (c' := cb_) (g := w.heap.size + 1) (by omega)
  replace pa := pa.sput (b' := b2) (A' := Ab_) (n' := nb_) (c' := cb_) x_b
  replace pb := pb.sput (b' := b2) (A' := Ab_) (n' := nb_) (c' := cb_) x_b
  replace hb := put_below (g := w.heap.size + 1) hb (by omega) (.bool b2) (.slice Ab_ nb_ cb_)
  replace x_b := x_b.put b2 Ab_ nb_ cb_
  clear q_a0 q_a1 f_a0 f_a1 q_b0 q_b1 f_b0 f_b1
  generalize (v5.setCell ⟨w.heap.size + 1, 0, none⟩ (.bool b2)).setCell ⟨w.heap.size + 1, 1, none⟩ (.slice Ab_ nb_ cb_) = v6 at *
  have q_a0 := x_a.c0; have q_a1 := x_a.c1; have f_a0 := x_a.fr 0; have f_a1 := x_a.fr 1
  have q_b0 := x_b.c0; have q_b1 := x_b.c1; have f_b0 := x_b.fr 0; have f_b1 := x_b.fr 1
  generalize l.take 40 = la at *
  generalize l2.take 40 = lb at *
  obtain ⟨X, hXe⟩ : ∃ X, zi b (vl Wd la) = X := ⟨_, rfl⟩
  obtain ⟨Y, hYe⟩ : ∃ Y, zi b2 (vl Wd lb) = Y := ⟨_, rfl⟩
  have za : Zr v6 b Aa_ na_ ca_ X 40 := ⟨_, pa, hXe, ka⟩
  have zb : Zr v6 b2 Ab_ nb_ cb_ Y 40 := ⟨_, pb, hYe, kb⟩
  have htk : la.take 40 = la := List.take_of_length_le (by rw [pa.len]; exact ka)
  have HTK := Lib.hid htk; have HXE := Lib.hid hXe; have HYE := Lib.hid hYe; clear htk hXe hYe
  by_cases hX : X = 0
  · have HX := Lib.hid hX; clear hX
    skip
    with_reducible refine (ZNorm_any za 40 (Nat.le_refl _)).mono ?_
    rintro e v7 ⟨A5, n5, c5, rfl, z_x, hb1⟩
    replace x_a := x_a.keep hb1
    replace x_b := x_b.keep hb1
    replace pa := pa.go hb1
    replace pb := pb.go hb1
    replace za := za.keep hb1
    replace zb := zb.keep hb1
    replace hb := bthen hb hb1
    clear hb1
    replace q_a0 := x_a.c0; replace q_a1 := x_a.c1; replace f_a0 := x_a.fr 0; replace f_a1 := x_a.fr 1
    replace q_b0 := x_b.c0; replace q_b1 := x_b.c1; replace f_b0 := x_b.fr 0; replace f_b1 := x_b.fr 1
    obtain rfl := (zn_len z_x).1 HX.out
    have y_a := (x_a.alloc (.cells #[.bool (ngB X), .slice A5 0 c5] 24)); have yq_a0 := y_a.c0; have yq_a1 := y_a.c1
    have y_b := (x_b.alloc (.cells #[.bool (ngB X), .slice A5 0 c5] 24)); have yq_b0 := y_b.c0; have yq_b1 := y_b.c1
    go_wp2_with fail
    clear y_a yq_a0 yq_a1 y_b yq_b0 yq_b1
    have hb1 := below_alloc v7 (.cells #[.bool (ngB X), .slice A5 0 c5] 24)
    have l_a_x := x_a.lt
    have l_b_x := x_b.lt
    have x_x := Bx.new v7 (ngB X) A5 0 c5
    have e_x : w.heap.size ≤ v7.heap.size := hb.size
    replace x_a := x_a.keep hb1
    replace x_b := x_b.keep hb1
    replace pa := pa.go hb1
    replace pb := pb.go hb1
    replace za := za.keep hb1
    replace zb := zb.keep hb1
    replace z_x := z_x.keep hb1
    replace hb := bthen hb hb1
    clear hb1
    replace q_a0 := x_a.c0; replace q_a1 := x_a.c1; replace f_a0 := x_a.fr 0; replace f_a1 := x_a.fr 1
    replace q_b0 := x_b.c0; replace q_b1 := x_b.c1; replace f_b0 := x_b.fr 0; replace f_b1 := x_b.fr 1
    clear q_a0 q_a1 f_a0 f_a1 q_b0 q_b1 f_b0 f_b1
    generalize v7.alloc (.cells #[.bool (ngB X), .slice A5 0 c5] 24) = v8 at *
    have q_a0 := x_a.c0; have q_a1 := x_a.c1; have f_a0 := x_a.fr 0; have f_a1 := x_a.fr 1
    have q_b0 := x_b.c0; have q_b1 := x_b.c1; have f_b0 := x_b.fr 0; have f_b1 := x_b.fr 1
    have q_x0 := x_x.c0; have q_x1 := x_x.c1; have f_x0 := x_x.fr 0; have f_x1 := x_x.fr 1
    go_region_held3 (fun w' => w'.cell? ⟨v7.heap.size, 0, none⟩ = some (.bool (ngB X)) ∧ w'.cell? ⟨v7.heap.size, 1, none⟩ = some (.slice A5 0 c5) ∧ w'.cell? ⟨w.heap.size, 0, none⟩ = some (.bool b) ∧ w'.cell? ⟨w.heap.size, 1, none⟩ = some (.slice Aa_ na_ ca_))
      (first | (with_reducible exact ⟨x_x.c0, x_x.c1, x_a.c0, x_a.c1⟩) | (with_reducible exact ⟨(x_x.aside (by omega)).c0, (x_x.aside (by omega)).c1, (x_a.aside (by omega)).c0, (x_a.aside (by omega)).c1⟩) | (with_reducible exact ⟨((x_x.aside (by omega)).aside (by omega)).c0, ((x_x.aside (by omega)).aside (by omega)).c1, ((x_a.aside (by omega)).aside (by omega)).c0, ((x_a.aside (by omega)).aside (by omega)).c1⟩) | go_keep)
      (first | (go_at_call 9; (with_reducible refine (RNormZ_any za.drw 40 (Nat.le_refl _) (by omega)).mono ?_); rintro e v9 ⟨A6, n6, c6, rfl, z6, hb1⟩; replace hb1 := undrew hb1; replace x_a := x_a.keep hb1; replace x_b := x_b.keep hb1; replace x_x := x_x.keep hb1; replace pa := pa.go hb1; replace pb := pb.go hb1; replace za := za.keep hb1; replace zb := zb.keep hb1; replace z_x := z_x.keep hb1; replace hb := bthen hb hb1; clear hb1; replace q_a0 := x_a.c0; replace q_a1 := x_a.c1; replace f_a0 := x_a.fr 0; replace f_a1 := x_a.fr 1; replace q_b0 := x_b.c0; replace q_b1 := x_b.c1; replace f_b0 := x_b.fr 0; replace f_b1 := x_b.fr 1; replace q_x0 := x_x.c0; replace q_x1 := x_x.c1; replace f_x0 := x_x.fr 0; replace f_x1 := x_x.fr 1) | (go_at_call 8; (with_reducible refine (Zequal_any z_x z6 rfl).mono ?_); rintro e v10 ⟨rfl, hb1⟩; replace x_a := x_a.keep hb1; replace x_b := x_b.keep hb1; replace x_x := x_x.keep hb1; replace pa := pa.go hb1; replace pb := pb.go hb1; replace za := za.keep hb1; replace zb := zb.keep hb1; replace z_x := z_x.keep hb1; replace z6 := z6.keep hb1; replace hb := bthen hb hb1; clear hb1; replace q_a0 := x_a.c0; replace q_a1 := x_a.c1; replace f_a0 := x_a.fr 0; replace f_a1 := x_a.fr 1; replace q_b0 := x_b.c0; replace q_b1 := x_b.c1; replace f_b0 := x_b.fr 0; replace f_b1 := x_b.fr 1; replace q_x0 := x_x.c0; replace q_x1 := x_x.c1; replace f_x0 := x_x.fr 0; replace f_x1 := x_x.fr 1))
    go_wp2_with fail
    clear z6 z_x
    skip
    with_reducible refine (Zcut_at pa 40 40 rfl (by omega)).mono ?_
    rintro e v11 ⟨A7, n7, c7, rfl, po, ko, hb1⟩
    replace x_a := x_a.keep hb1
    replace x_b := x_b.keep hb1
    replace x_x := x_x.keep hb1
    replace pa := pa.go hb1
    replace pb := pb.go hb1
    replace za := za.keep hb1
    replace zb := zb.keep hb1
    replace hb := bthen hb hb1
    clear hb1
    replace q_a0 := x_a.c0; replace q_a1 := x_a.c1; replace f_a0 := x_a.fr 0; replace f_a1 := x_a.fr 1
    replace q_b0 := x_b.c0; replace q_b1 := x_b.c1; replace f_b0 := x_b.fr 0; replace f_b1 := x_b.fr 1
    replace q_x0 := x_x.c0; replace q_x1 := x_x.c1; replace f_x0 := x_x.fr 0; replace f_x1 := x_x.fr 1
    rw [HTK.out] at po
    have y_a := (x_a.alloc (.cells #[.bool b, .slice A7 n7 c7] 24)); have yq_a0 := y_a.c0; have yq_a1 := y_a.c1
    have y_b := (x_b.alloc (.cells #[.bool b, .slice A7 n7 c7] 24)); have yq_b0 := y_b.c0; have yq_b1 := y_b.c1
    have y_x := (x_x.alloc (.cells #[.bool b, .slice A7 n7 c7] 24)); have yq_x0 := y_x.c0; have yq_x1 := y_x.c1
    go_wp2_with fail
    clear y_a yq_a0 yq_a1 y_b yq_b0 yq_b1 y_x yq_x0 yq_x1
    have hb1 := below_alloc v11 (.cells #[.bool b, .slice A7 n7 c7] 24)
    have l_a_o := x_a.lt
    have l_b_o := x_b.lt
    have l_x_o := x_x.lt
    have x_o := Bx.new v11 b A7 n7 c7
    have e_o : w.heap.size ≤ v11.heap.size := hb.size
    replace x_a := x_a.keep hb1
    replace x_b := x_b.keep hb1
    replace x_x := x_x.keep hb1
    replace pa := pa.go hb1
    replace pb := pb.go hb1
    replace za := za.keep hb1
    replace zb := zb.keep hb1
    replace po := po.go hb1
    replace hb := bthen hb hb1
    clear hb1
    replace q_a0 := x_a.c0; replace q_a1 := x_a.c1; replace f_a0 := x_a.fr 0; replace f_a1 := x_a.fr 1
    replace q_b0 := x_b.c0; replace q_b1 := x_b.c1; replace f_b0 := x_b.fr 0; replace f_b1 := x_b.fr 1
    replace q_x0 := x_x.c0; replace q_x1 := x_x.c1; replace f_x0 := x_x.fr 0; replace f_x1 := x_x.fr 1
    clear q_a0 q_a1 f_a0 f_a1 q_b0 q_b1 f_b0 f_b1 q_x0 q_x1 f_x0 f_x1
    generalize v11.alloc (.cells #[.bool b, .slice A7 n7 c7] 24) = v12 at *
    have q_a0 := x_a.c0; have q_a1 := x_a.c1; have f_a0 := x_a.fr 0; have f_a1 := x_a.fr 1
    have q_b0 := x_b.c0; have q_b1 := x_b.c1; have f_b0 := x_b.fr 0; have f_b1 := x_b.fr 1
    have q_x0 := x_x.c0; have q_x1 := x_x.c1; have f_x0 := x_x.fr 0; have f_x1 := x_x.fr 1
    have q_o0 := x_o.c0; have q_o1 := x_o.c1; have f_o0 := x_o.fr 0; have f_o1 := x_o.fr 1
    refine wp_loop_rounds 1 ?_
    rw [rounds_succ]
    go_wp2_with fail
    with_reducible refine (ZSmall_any za (by omega)).mono ?_
    rintro e v13 ⟨rfl, hb1⟩
    replace x_a := x_a.keep hb1
    replace x_b := x_b.keep hb1
    replace x_x := x_x.keep hb1
    replace x_o := x_o.keep hb1
    replace pa := pa.go hb1
    replace pb := pb.go hb1
    replace za := za.keep hb1
    replace zb := zb.keep hb1
    replace po := po.go hb1
    replace hb := bthen hb hb1
    clear hb1
    replace q_a0 := x_a.c0; replace q_a1 := x_a.c1; replace f_a0 := x_a.fr 0; replace f_a1 := x_a.fr 1
    replace q_b0 := x_b.c0; replace q_b1 := x_b.c1; replace f_b0 := x_b.fr 0; replace f_b1 := x_b.fr 1
    replace q_x0 := x_x.c0; replace q_x1 := x_x.c1; replace f_x0 := x_x.fr 0; replace f_x1 := x_x.fr 1
    replace q_o0 := x_o.c0; replace q_o1 := x_o.c1; replace f_o0 := x_o.fr 0; replace f_o1 := x_o.fr 1
    generalize hSI : smI X = SI
    generalize hSB : smB X = SB
    have HSI := Lib.hid hSI; have HSB := Lib.hid hSB; clear hSI hSB
    go_wp2_with fail
    with_reducible refine (RSmallZ_any za (by omega)).mono ?_
    rintro e v14 ⟨rfl, hb1⟩
    replace x_a := x_a.keep hb1
    replace x_b := x_b.keep hb1
    replace x_x := x_x.keep hb1
    replace x_o := x_o.keep hb1
    replace pa := pa.go hb1
    replace pb := pb.go hb1
    replace za := za.keep hb1
    replace zb := zb.keep hb1
    replace po := po.go hb1
    replace hb := bthen hb hb1
    clear hb1
    replace q_a0 := x_a.c0; replace q_a1 := x_a.c1; replace f_a0 := x_a.fr 0; replace f_a1 := x_a.fr 1
    replace q_b0 := x_b.c0; replace q_b1 := x_b.c1; replace f_b0 := x_b.fr 0; replace f_b1 := x_b.fr 1
    replace q_x0 := x_x.c0; replace q_x1 := x_x.c1; replace f_x0 := x_x.fr 0; replace f_x1 := x_x.fr 1
    replace q_o0 := x_o.c0; replace q_o1 := x_o.c1; replace f_o0 := x_o.fr 0; replace f_o1 := x_o.fr 1
    rw [HSI.out, HSB.out]
    go_wp2_with fail
    refine (Same_any _ _ _ _ _ _ _ _ _ _ po pa).mono ?_
    rintro e v15 ⟨rfl, hq⟩
    rw [sameB_self]
    have hb1 := hq.bel; clear hq
    replace x_a := x_a.keep hb1
    replace x_b := x_b.keep hb1
    replace x_x := x_x.keep hb1
    replace x_o := x_o.keep hb1
    replace pa := pa.go hb1
    replace pb := pb.go hb1
    replace za := za.keep hb1
    replace zb := zb.keep hb1
    replace po := po.go hb1
    replace hb := bthen hb hb1
    clear hb1
    replace q_a0 := x_a.c0; replace q_a1 := x_a.c1; replace f_a0 := x_a.fr 0; replace f_a1 := x_a.fr 1
    replace q_b0 := x_b.c0; replace q_b1 := x_b.c1; replace f_b0 := x_b.fr 0; replace f_b1 := x_b.fr 1
    replace q_x0 := x_x.c0; replace q_x1 := x_x.c1; replace f_x0 := x_x.fr 0; replace f_x1 := x_x.fr 1
    replace q_o0 := x_o.c0; replace q_o1 := x_o.c1; replace f_o0 := x_o.fr 0; replace f_o1 := x_o.fr 1
    clear po pa pb
    obtain ⟨s1, hs1⟩ : ∃ s1, sgnI X = s1 := ⟨_, rfl⟩
    obtain ⟨s2, hs2⟩ : ∃ s2, sgnI (X - Y) = s2 := ⟨_, rfl⟩
    obtain ⟨s3, hs3⟩ : ∃ s3, eqB X Y = s3 := ⟨_, rfl⟩
    obtain ⟨s4, hs4⟩ : ∃ s4 : Int, (bl X.natAbs : Int) = s4 := ⟨_, rfl⟩
    have H1 := Lib.hid hs1; have H2 := Lib.hid hs2; have H3 := Lib.hid hs3; have H4 := Lib.hid hs4; clear hs1 hs2 hs3 hs4
    go_wp2_with fail
    go_region_held3 (fun w' => w'.cell? ⟨w.heap.size, 0, none⟩ = some (.bool b) ∧ w'.cell? ⟨w.heap.size, 1, none⟩ = some (.slice Aa_ na_ ca_) ∧ w'.cell? ⟨w.heap.size + 1, 0, none⟩ = some (.bool b2) ∧ w'.cell? ⟨w.heap.size + 1, 1, none⟩ = some (.slice Ab_ nb_ cb_))
      (first | (with_reducible exact ⟨x_a.c0, x_a.c1, x_b.c0, x_b.c1⟩) | (with_reducible exact ⟨(x_a.aside (by omega)).c0, (x_a.aside (by omega)).c1, (x_b.aside (by omega)).c0, (x_b.aside (by omega)).c1⟩) | (with_reducible exact ⟨((x_a.aside (by omega)).aside (by omega)).c0, ((x_a.aside (by omega)).aside (by omega)).c1, ((x_b.aside (by omega)).aside (by omega)).c0, ((x_b.aside (by omega)).aside (by omega)).c1⟩) | go_keep)
      (first | (go_at_call 13; (with_reducible refine (ZSign_any za.drw (by omega)).mono ?_); rintro e v16 ⟨rfl, hb1⟩; replace hb1 := undrew hb1; replace x_a := x_a.keep hb1; replace x_b := x_b.keep hb1; replace x_x := x_x.keep hb1; replace x_o := x_o.keep hb1; replace za := za.keep hb1; replace zb := zb.keep hb1; replace hb := bthen hb hb1; clear hb1; replace q_a0 := x_a.c0; replace q_a1 := x_a.c1; replace f_a0 := x_a.fr 0; replace f_a1 := x_a.fr 1; replace q_b0 := x_b.c0; replace q_b1 := x_b.c1; replace f_b0 := x_b.fr 0; replace f_b1 := x_b.fr 1; replace q_x0 := x_x.c0; replace q_x1 := x_x.c1; replace f_x0 := x_x.fr 0; replace f_x1 := x_x.fr 1; replace q_o0 := x_o.c0; replace q_o1 := x_o.c1; replace f_o0 := x_o.fr 0; replace f_o1 := x_o.fr 1; rw [H1.out]) | (go_at_call 14; (with_reducible refine (RSignZ_any za (by omega)).mono ?_); rintro e v17 ⟨rfl, hb1⟩; replace x_a := x_a.keep hb1; replace x_b := x_b.keep hb1; replace x_x := x_x.keep hb1; replace x_o := x_o.keep hb1; replace za := za.keep hb1; replace zb := zb.keep hb1; replace hb := bthen hb hb1; clear hb1; replace q_a0 := x_a.c0; replace q_a1 := x_a.c1; replace f_a0 := x_a.fr 0; replace f_a1 := x_a.fr 1; replace q_b0 := x_b.c0; replace q_b1 := x_b.c1; replace f_b0 := x_b.fr 0; replace f_b1 := x_b.fr 1; replace q_x0 := x_x.c0; replace q_x1 := x_x.c1; replace f_x0 := x_x.fr 0; replace f_x1 := x_x.fr 1; replace q_o0 := x_o.c0; replace q_o1 := x_o.c1; replace f_o0 := x_o.fr 0; replace f_o1 := x_o.fr 1; rw [H1.out]) | (go_at_call 15; (with_reducible refine (ZCmp_any za zb (by omega) (by omega)).mono ?_); rintro e v18 ⟨rfl, hb1⟩; replace x_a := x_a.keep hb1; replace x_b := x_b.keep hb1; replace x_x := x_x.keep hb1; replace x_o := x_o.keep hb1; replace za := za.keep hb1; replace zb := zb.keep hb1; replace hb := bthen hb hb1; clear hb1; replace q_a0 := x_a.c0; replace q_a1 := x_a.c1; replace f_a0 := x_a.fr 0; replace f_a1 := x_a.fr 1; replace q_b0 := x_b.c0; replace q_b1 := x_b.c1; replace f_b0 := x_b.fr 0; replace f_b1 := x_b.fr 1; replace q_x0 := x_x.c0; replace q_x1 := x_x.c1; replace f_x0 := x_x.fr 0; replace f_x1 := x_x.fr 1; replace q_o0 := x_o.c0; replace q_o1 := x_o.c1; replace f_o0 := x_o.fr 0; replace f_o1 := x_o.fr 1; rw [H2.out]) | (go_at_call 16; (with_reducible refine (RCmpZ_any za zb 41 (by omega) (by omega) (by omega)).mono ?_); rintro e v19 ⟨rfl, hb1⟩; replace x_a := x_a.keep hb1; replace x_b := x_b.keep hb1; replace x_x := x_x.keep hb1; replace x_o := x_o.keep hb1; replace za := za.keep hb1; replace zb := zb.keep hb1; replace hb := bthen hb hb1; clear hb1; replace q_a0 := x_a.c0; replace q_a1 := x_a.c1; replace f_a0 := x_a.fr 0; replace f_a1 := x_a.fr 1; replace q_b0 := x_b.c0; replace q_b1 := x_b.c1; replace f_b0 := x_b.fr 0; replace f_b1 := x_b.fr 1; replace q_x0 := x_x.c0; replace q_x1 := x_x.c1; replace f_x0 := x_x.fr 0; replace f_x1 := x_x.fr 1; replace q_o0 := x_o.c0; replace q_o1 := x_o.c1; replace f_o0 := x_o.fr 0; replace f_o1 := x_o.fr 1; rw [H2.out]) | (go_at_call 17; (with_reducible refine (ZSame_any za zb (by omega) (by omega)).mono ?_); rintro e v20 ⟨rfl, hb1⟩; replace x_a := x_a.keep hb1; replace x_b := x_b.keep hb1; replace x_x := x_x.keep hb1; replace x_o := x_o.keep hb1; replace za := za.keep hb1; replace zb := zb.keep hb1; replace hb := bthen hb hb1; clear hb1; replace q_a0 := x_a.c0; replace q_a1 := x_a.c1; replace f_a0 := x_a.fr 0; replace f_a1 := x_a.fr 1; replace q_b0 := x_b.c0; replace q_b1 := x_b.c1; replace f_b0 := x_b.fr 0; replace f_b1 := x_b.fr 1; replace q_x0 := x_x.c0; replace q_x1 := x_x.c1; replace f_x0 := x_x.fr 0; replace f_x1 := x_x.fr 1; replace q_o0 := x_o.c0; replace q_o1 := x_o.c1; replace f_o0 := x_o.fr 0; replace f_o1 := x_o.fr 1; rw [H3.out]) | (go_at_call 18; (with_reducible refine (RSameZ_any za zb 41 (by omega) (by omega) (by omega)).mono ?_); rintro e v21 ⟨rfl, hb1⟩; replace x_a := x_a.keep hb1; replace x_b := x_b.keep hb1; replace x_x := x_x.keep hb1; replace x_o := x_o.keep hb1; replace za := za.keep hb1; replace zb := zb.keep hb1; replace hb := bthen hb hb1; clear hb1; replace q_a0 := x_a.c0; replace q_a1 := x_a.c1; replace f_a0 := x_a.fr 0; replace f_a1 := x_a.fr 1; replace q_b0 := x_b.c0; replace q_b1 := x_b.c1; replace f_b0 := x_b.fr 0; replace f_b1 := x_b.fr 1; replace q_x0 := x_x.c0; replace q_x1 := x_x.c1; replace f_x0 := x_x.fr 0; replace f_x1 := x_x.fr 1; replace q_o0 := x_o.c0; replace q_o1 := x_o.c1; replace f_o0 := x_o.fr 0; replace f_o1 := x_o.fr 1; rw [H3.out]) | (go_at_call 19; (with_reducible refine (ZBitLen_any za).mono ?_); rintro e v22 ⟨rfl, hb1⟩; replace x_a := x_a.keep hb1; replace x_b := x_b.keep hb1; replace x_x := x_x.keep hb1; replace x_o := x_o.keep hb1; replace za := za.keep hb1; replace zb := zb.keep hb1; replace hb := bthen hb hb1; clear hb1; replace q_a0 := x_a.c0; replace q_a1 := x_a.c1; replace f_a0 := x_a.fr 0; replace f_a1 := x_a.fr 1; replace q_b0 := x_b.c0; replace q_b1 := x_b.c1; replace f_b0 := x_b.fr 0; replace f_b1 := x_b.fr 1; replace q_x0 := x_x.c0; replace q_x1 := x_x.c1; replace f_x0 := x_x.fr 0; replace f_x1 := x_x.fr 1; replace q_o0 := x_o.c0; replace q_o1 := x_o.c1; replace f_o0 := x_o.fr 0; replace f_o1 := x_o.fr 1; rw [H4.out]) | (go_at_call 20; (with_reducible refine (RBitLenZ_any za (by omega)).mono ?_); rintro e v23 ⟨rfl, hb1⟩; replace x_a := x_a.keep hb1; replace x_b := x_b.keep hb1; replace x_x := x_x.keep hb1; replace x_o := x_o.keep hb1; replace za := za.keep hb1; replace zb := zb.keep hb1; replace hb := bthen hb hb1; clear hb1; replace q_a0 := x_a.c0; replace q_a1 := x_a.c1; replace f_a0 := x_a.fr 0; replace f_a1 := x_a.fr 1; replace q_b0 := x_b.c0; replace q_b1 := x_b.c1; replace f_b0 := x_b.fr 0; replace f_b1 := x_b.fr 1; replace q_x0 := x_x.c0; replace q_x1 := x_x.c1; replace f_x0 := x_x.fr 0; replace f_x1 := x_x.fr 1; replace q_o0 := x_o.c0; replace q_o1 := x_o.c1; replace f_o0 := x_o.fr 0; replace f_o1 := x_o.fr 1; rw [H4.out]))
    go_wp2
    go_ret
    exact ⟨by simp, hb⟩
  · have HX := Lib.hid hX
    have lta := x_a.lt; have ltb := x_b.lt
    have hsz0 := hb.size
    have paB := pa; have pbB := pb
    skip
    with_reducible refine (ZNorm_own za hX).mono ?_
    rintro e v7 ⟨g, L, hg0, rfl, hbk, hL, hLk, hb1⟩
    replace x_a := x_a.keep hb1
    replace x_b := x_b.keep hb1
    replace pa := pa.go hb1
    replace pb := pb.go hb1
    replace za := za.keep hb1
    replace zb := zb.keep hb1
    replace hb := bthen hb hb1
    clear hb1
    replace q_a0 := x_a.c0; replace q_a1 := x_a.c1; replace f_a0 := x_a.fr 0; replace f_a1 := x_a.fr 1
    replace q_b0 := x_b.c0; replace q_b1 := x_b.c1; replace f_b0 := x_b.fr 0; replace f_b1 := x_b.fr 1
    have hltg := hbk.lt
    have fa : 0 < na_ → Far Aa_ g := fun h0 => far_of paB h0 hg0
    have fb : 0 < nb_ → Far Ab_ g := fun h0 => far_of pbB h0 hg0
    clear paB pbB
    have z_x : Zn v7 (some ⟨g, 0, none⟩) L L X 40 := by
      have := whole_rd hbk (by omega)
      rw [hL] at this
      exact ⟨this, hLk⟩
    have y_a := (x_a.alloc (.cells #[.bool (ngB X), .slice (some ⟨g, 0, none⟩) L L] 24)); have yq_a0 := y_a.c0; have yq_a1 := y_a.c1
    have y_b := (x_b.alloc (.cells #[.bool (ngB X), .slice (some ⟨g, 0, none⟩) L L] 24)); have yq_b0 := y_b.c0; have yq_b1 := y_b.c1
    go_wp2_with fail
    clear y_a yq_a0 yq_a1 y_b yq_b0 yq_b1
    have hb1 := below_alloc v7 (.cells #[.bool (ngB X), .slice (some ⟨g, 0, none⟩) L L] 24)
    have l_a_x := x_a.lt
    have l_b_x := x_b.lt
    have x_x := Bx.new v7 (ngB X) (some ⟨g, 0, none⟩) L L
    have e_x : w.heap.size ≤ v7.heap.size := hb.size
    replace x_a := x_a.keep hb1
    replace x_b := x_b.keep hb1
    replace pa := pa.go hb1
    replace pb := pb.go hb1
    replace za := za.keep hb1
    replace zb := zb.keep hb1
    replace hbk := hbk.keep hb1
    replace z_x := z_x.keep hb1
    replace hb := bthen hb hb1
    clear hb1
    replace q_a0 := x_a.c0; replace q_a1 := x_a.c1; replace f_a0 := x_a.fr 0; replace f_a1 := x_a.fr 1
    replace q_b0 := x_b.c0; replace q_b1 := x_b.c1; replace f_b0 := x_b.fr 0; replace f_b1 := x_b.fr 1
    clear q_a0 q_a1 f_a0 f_a1 q_b0 q_b1 f_b0 f_b1
    generalize v7.alloc (.cells #[.bool (ngB X), .slice (some ⟨g, 0, none⟩) L L] 24) = v8 at *
    have q_a0 := x_a.c0; have q_a1 := x_a.c1; have f_a0 := x_a.fr 0; have f_a1 := x_a.fr 1
    have q_b0 := x_b.c0; have q_b1 := x_b.c1; have f_b0 := x_b.fr 0; have f_b1 := x_b.fr 1
    have q_x0 := x_x.c0; have q_x1 := x_x.c1; have f_x0 := x_x.fr 0; have f_x1 := x_x.fr 1
    go_region_held3 (fun w' => w'.cell? ⟨v7.heap.size, 0, none⟩ = some (.bool (ngB X)) ∧ w'.cell? ⟨v7.heap.size, 1, none⟩ = some (.slice (some ⟨g, 0, none⟩) L L) ∧ w'.cell? ⟨w.heap.size, 0, none⟩ = some (.bool b) ∧ w'.cell? ⟨w.heap.size, 1, none⟩ = some (.slice Aa_ na_ ca_))
      (first | (with_reducible exact ⟨x_x.c0, x_x.c1, x_a.c0, x_a.c1⟩) | (with_reducible exact ⟨(x_x.aside (by omega)).c0, (x_x.aside (by omega)).c1, (x_a.aside (by omega)).c0, (x_a.aside (by omega)).c1⟩) | (with_reducible exact ⟨((x_x.aside (by omega)).aside (by omega)).c0, ((x_x.aside (by omega)).aside (by omega)).c1, ((x_a.aside (by omega)).aside (by omega)).c0, ((x_a.aside (by omega)).aside (by omega)).c1⟩) | go_keep)
      (first | (go_at_call 9; (with_reducible refine (RNormZ_any za.drw 40 (Nat.le_refl _) (by omega)).mono ?_); rintro e v9 ⟨A6, n6, c6, rfl, z6, hb1⟩; replace hb1 := undrew hb1; replace x_a := x_a.keep hb1; replace x_b := x_b.keep hb1; replace x_x := x_x.keep hb1; replace pa := pa.go hb1; replace pb := pb.go hb1; replace za := za.keep hb1; replace zb := zb.keep hb1; replace hbk := hbk.keep hb1; replace z_x := z_x.keep hb1; replace hb := bthen hb hb1; clear hb1; replace q_a0 := x_a.c0; replace q_a1 := x_a.c1; replace f_a0 := x_a.fr 0; replace f_a1 := x_a.fr 1; replace q_b0 := x_b.c0; replace q_b1 := x_b.c1; replace f_b0 := x_b.fr 0; replace f_b1 := x_b.fr 1; replace q_x0 := x_x.c0; replace q_x1 := x_x.c1; replace f_x0 := x_x.fr 0; replace f_x1 := x_x.fr 1) | (go_at_call 8; (with_reducible refine (Zequal_any z_x z6 rfl).mono ?_); rintro e v10 ⟨rfl, hb1⟩; replace x_a := x_a.keep hb1; replace x_b := x_b.keep hb1; replace x_x := x_x.keep hb1; replace pa := pa.go hb1; replace pb := pb.go hb1; replace za := za.keep hb1; replace zb := zb.keep hb1; replace hbk := hbk.keep hb1; replace z_x := z_x.keep hb1; replace z6 := z6.keep hb1; replace hb := bthen hb hb1; clear hb1; replace q_a0 := x_a.c0; replace q_a1 := x_a.c1; replace f_a0 := x_a.fr 0; replace f_a1 := x_a.fr 1; replace q_b0 := x_b.c0; replace q_b1 := x_b.c1; replace f_b0 := x_b.fr 0; replace f_b1 := x_b.fr 1; replace q_x0 := x_x.c0; replace q_x1 := x_x.c1; replace f_x0 := x_x.fr 0; replace f_x1 := x_x.fr 1))
    go_wp2_with fail
    clear z6 z_x
    have hltg2 := hbk.lt
    skip
    with_reducible refine (Zcut_own_at pa 40 40 rfl (by omega)).mono ?_
    rintro e v11 ⟨A7, n7, c7, rfl, po, ko, hfr, hb1⟩
    replace x_a := x_a.keep hb1
    replace x_b := x_b.keep hb1
    replace x_x := x_x.keep hb1
    replace pa := pa.go hb1
    replace pb := pb.go hb1
    replace za := za.keep hb1
    replace zb := zb.keep hb1
    replace hbk := hbk.keep hb1
    replace hb := bthen hb hb1
    clear hb1
    replace q_a0 := x_a.c0; replace q_a1 := x_a.c1; replace f_a0 := x_a.fr 0; replace f_a1 := x_a.fr 1
    replace q_b0 := x_b.c0; replace q_b1 := x_b.c1; replace f_b0 := x_b.fr 0; replace f_b1 := x_b.fr 1
    replace q_x0 := x_x.c0; replace q_x1 := x_x.c1; replace f_x0 := x_x.fr 0; replace f_x1 := x_x.fr 1
    rw [HTK.out] at po
    have fo : Far A7 g := fun p hp => by have := hfr p hp; omega
    have y_a := (x_a.alloc (.cells #[.bool b, .slice A7 n7 c7] 24)); have yq_a0 := y_a.c0; have yq_a1 := y_a.c1
    have y_b := (x_b.alloc (.cells #[.bool b, .slice A7 n7 c7] 24)); have yq_b0 := y_b.c0; have yq_b1 := y_b.c1
    have y_x := (x_x.alloc (.cells #[.bool b, .slice A7 n7 c7] 24)); have yq_x0 := y_x.c0; have yq_x1 := y_x.c1
    go_wp2_with fail
    clear y_a yq_a0 yq_a1 y_b yq_b0 yq_b1 y_x yq_x0 yq_x1
    have hb1 := below_alloc v11 (.cells #[.bool b, .slice A7 n7 c7] 24)
    have l_a_o := x_a.lt
    have l_b_o := x_b.lt
    have l_x_o := x_x.lt
    have x_o := Bx.new v11 b A7 n7 c7
    have e_o : w.heap.size ≤ v11.heap.size := hb.size
    replace x_a := x_a.keep hb1
    replace x_b := x_b.keep hb1
    replace x_x := x_x.keep hb1
    replace pa := pa.go hb1
    replace pb := pb.go hb1
    replace za := za.keep hb1
    replace zb := zb.keep hb1
    replace hbk := hbk.keep hb1
    replace po := po.go hb1
    replace hb := bthen hb hb1
    clear hb1
    replace q_a0 := x_a.c0; replace q_a1 := x_a.c1; replace f_a0 := x_a.fr 0; replace f_a1 := x_a.fr 1
    replace q_b0 := x_b.c0; replace q_b1 := x_b.c1; replace f_b0 := x_b.fr 0; replace f_b1 := x_b.fr 1
    replace q_x0 := x_x.c0; replace q_x1 := x_x.c1; replace f_x0 := x_x.fr 0; replace f_x1 := x_x.fr 1
    clear q_a0 q_a1 f_a0 f_a1 q_b0 q_b1 f_b0 f_b1 q_x0 q_x1 f_x0 f_x1
    generalize v11.alloc (.cells #[.bool b, .slice A7 n7 c7] 24) = v12 at *
    have q_a0 := x_a.c0; have q_a1 := x_a.c1; have f_a0 := x_a.fr 0; have f_a1 := x_a.fr 1
    have q_b0 := x_b.c0; have q_b1 := x_b.c1; have f_b0 := x_b.fr 0; have f_b1 := x_b.fr 1
    have q_x0 := x_x.c0; have q_x1 := x_x.c1; have f_x0 := x_x.fr 0; have f_x1 := x_x.fr 1
    have q_o0 := x_o.c0; have q_o1 := x_o.c1; have f_o0 := x_o.fr 0; have f_o1 := x_o.fr 1
    go_loopw [9] (fun iv wr => ∃ k : Nat, k ≤ L ∧ iv = .int .i64 k ∧ OvRel v12 g L wr) (fun iv _ => L - (intOf iv).toNat)
    case atStart => exact ⟨0, Nat.zero_le _, rfl, _, hL, hbk, ⟨rfl, rfl, rfl, Nat.le_refl _, fun _ _ _ => rfl⟩⟩
    case round =>
      obtain ⟨k, hk, rfl, XX, x1, x2, hgr⟩ := hrel
      have t_a := x_a.turned hgr (by omega); have t_b := x_b.turned hgr (by omega); have t_x := x_x.turned hgr (by omega); have t_o := x_o.turned hgr (by omega)
      clear hbk
      by_cases hkL : k < L
      · have hkX : k < XX.length := by omega
        have hc1 := x2.cell k hkX
        have hf1 := x2.frozen k
        have qx0 := t_x.c0; have qx1 := t_x.c1
        have R9 : OvRel v12 g L (wr.setCell ⟨g, k, none⟩ (.int .u64 7)) := ⟨_, by simpa using x1, x2.set k 7, grownBy_trans hgr (grownBy_set wr g k _)⟩
        generalize XX[k] = zz at hc1
        clear x1 x2 hgr
        go_wp2
        go_roundw
        case rel => exact ⟨k + 1, by omega, by go_num, R9⟩
        case measure => simp [intOf]; omega
      · obtain rfl : L = k := by omega
        have hb := grow_below hb hb.size hgr (by omega)
        have po := po.turned fo hgr
        have pa : Rd wr wr.heap.size Aa_ na_ ca_ la := by
          rcases Nat.eq_zero_or_pos na_ with h0 | h0
          · exact ⟨pa.1, pa.2.1, pa.2.2.1, pa.2.2.2.1, fun h1 => absurd h1 (by omega)⟩
          · exact pa.turned (fa h0) hgr
        have pb : Rd wr wr.heap.size Ab_ nb_ cb_ lb := by
          rcases Nat.eq_zero_or_pos nb_ with h0 | h0
          · exact ⟨pb.1, pb.2.1, pb.2.2.1, pb.2.2.2.1, fun h1 => absurd h1 (by omega)⟩
          · exact pb.turned (fb h0) hgr
        have za : Zr wr b Aa_ na_ ca_ X 40 := ⟨la, pa, HXE.out, ka⟩
        have zb : Zr wr b2 Ab_ nb_ cb_ Y 40 := ⟨lb, pb, HYE.out, kb⟩
        have qx0 := t_x.c0; have qx1 := t_x.c1
        clear x_a x_b x_x x_o q_a0 q_a1 f_a0 f_a1 q_b0 q_b1 f_b0 f_b1 q_x0 q_x1 f_x0 f_x1 q_o0 q_o1 f_o0 f_o1
        have x_a := t_a; have x_b := t_b; have x_o := t_o; have x_x := t_x
        clear t_a t_b t_o t_x
        have q_a0 := x_a.c0; have q_a1 := x_a.c1; have f_a0 := x_a.fr 0; have f_a1 := x_a.fr 1
        have q_b0 := x_b.c0; have q_b1 := x_b.c1; have f_b0 := x_b.fr 0; have f_b1 := x_b.fr 1
        have q_x0 := x_x.c0; have q_x1 := x_x.c1; have f_x0 := x_x.fr 0; have f_x1 := x_x.fr 1
        have q_o0 := x_o.c0; have q_o1 := x_o.c1; have f_o0 := x_o.fr 0; have f_o1 := x_o.fr 1
        go_wp2_with fail
        with_reducible refine (ZSmall_any za (by omega)).mono ?_
        rintro e v13 ⟨rfl, hb1⟩
        replace x_a := x_a.keep hb1
        replace x_b := x_b.keep hb1
        replace x_x := x_x.keep hb1
        replace x_o := x_o.keep hb1
        replace po := po.go hb1
        replace pa := pa.go hb1
        replace pb := pb.go hb1
        replace za := za.keep hb1
        replace zb := zb.keep hb1
        replace hb := bthen hb hb1
        clear hb1
        replace q_a0 := x_a.c0; replace q_a1 := x_a.c1; replace f_a0 := x_a.fr 0; replace f_a1 := x_a.fr 1
        replace q_b0 := x_b.c0; replace q_b1 := x_b.c1; replace f_b0 := x_b.fr 0; replace f_b1 := x_b.fr 1
        replace q_x0 := x_x.c0; replace q_x1 := x_x.c1; replace f_x0 := x_x.fr 0; replace f_x1 := x_x.fr 1
        replace q_o0 := x_o.c0; replace q_o1 := x_o.c1; replace f_o0 := x_o.fr 0; replace f_o1 := x_o.fr 1
        generalize hSI : smI X = SI
        generalize hSB : smB X = SB
        have HSI := Lib.hid hSI; have HSB := Lib.hid hSB; clear hSI hSB
        go_wp2_with fail
        with_reducible refine (RSmallZ_any za (by omega)).mono ?_
        rintro e v14 ⟨rfl, hb1⟩
        replace x_a := x_a.keep hb1
        replace x_b := x_b.keep hb1
        replace x_x := x_x.keep hb1
        replace x_o := x_o.keep hb1
        replace po := po.go hb1
        replace pa := pa.go hb1
        replace pb := pb.go hb1
        replace za := za.keep hb1
        replace zb := zb.keep hb1
        replace hb := bthen hb hb1
        clear hb1
        replace q_a0 := x_a.c0; replace q_a1 := x_a.c1; replace f_a0 := x_a.fr 0; replace f_a1 := x_a.fr 1
        replace q_b0 := x_b.c0; replace q_b1 := x_b.c1; replace f_b0 := x_b.fr 0; replace f_b1 := x_b.fr 1
        replace q_x0 := x_x.c0; replace q_x1 := x_x.c1; replace f_x0 := x_x.fr 0; replace f_x1 := x_x.fr 1
        replace q_o0 := x_o.c0; replace q_o1 := x_o.c1; replace f_o0 := x_o.fr 0; replace f_o1 := x_o.fr 1
        rw [HSI.out, HSB.out]
        go_wp2_with fail
        refine (Same_any _ _ _ _ _ _ _ _ _ _ po pa).mono ?_
        rintro e v15 ⟨rfl, hq⟩
        rw [sameB_self]
        have hb1 := hq.bel; clear hq
        replace x_a := x_a.keep hb1
        replace x_b := x_b.keep hb1
        replace x_x := x_x.keep hb1
        replace x_o := x_o.keep hb1
        replace po := po.go hb1
        replace pa := pa.go hb1
        replace pb := pb.go hb1
        replace za := za.keep hb1
        replace zb := zb.keep hb1
        replace hb := bthen hb hb1
        clear hb1
        replace q_a0 := x_a.c0; replace q_a1 := x_a.c1; replace f_a0 := x_a.fr 0; replace f_a1 := x_a.fr 1
        replace q_b0 := x_b.c0; replace q_b1 := x_b.c1; replace f_b0 := x_b.fr 0; replace f_b1 := x_b.fr 1
        replace q_x0 := x_x.c0; replace q_x1 := x_x.c1; replace f_x0 := x_x.fr 0; replace f_x1 := x_x.fr 1
        replace q_o0 := x_o.c0; replace q_o1 := x_o.c1; replace f_o0 := x_o.fr 0; replace f_o1 := x_o.fr 1
        clear po pa pb
        obtain ⟨s1, hs1⟩ : ∃ s1, sgnI X = s1 := ⟨_, rfl⟩
        obtain ⟨s2, hs2⟩ : ∃ s2, sgnI (X - Y) = s2 := ⟨_, rfl⟩
        obtain ⟨s3, hs3⟩ : ∃ s3, eqB X Y = s3 := ⟨_, rfl⟩
        obtain ⟨s4, hs4⟩ : ∃ s4 : Int, (bl X.natAbs : Int) = s4 := ⟨_, rfl⟩
        have H1 := Lib.hid hs1; have H2 := Lib.hid hs2; have H3 := Lib.hid hs3; have H4 := Lib.hid hs4; clear hs1 hs2 hs3 hs4
        go_wp2_with fail
        go_region_held3 (fun w' => w'.cell? ⟨w.heap.size, 0, none⟩ = some (.bool b) ∧ w'.cell? ⟨w.heap.size, 1, none⟩ = some (.slice Aa_ na_ ca_) ∧ w'.cell? ⟨w.heap.size + 1, 0, none⟩ = some (.bool b2) ∧ w'.cell? ⟨w.heap.size + 1, 1, none⟩ = some (.slice Ab_ nb_ cb_))
          (first | (with_reducible exact ⟨x_a.c0, x_a.c1, x_b.c0, x_b.c1⟩) | (with_reducible exact ⟨(x_a.aside (by omega)).c0, (x_a.aside (by omega)).c1, (x_b.aside (by omega)).c0, (x_b.aside (by omega)).c1⟩) | (with_reducible exact ⟨((x_a.aside (by omega)).aside (by omega)).c0, ((x_a.aside (by omega)).aside (by omega)).c1, ((x_b.aside (by omega)).aside (by omega)).c0, ((x_b.aside (by omega)).aside (by omega)).c1⟩) | go_keep)
          (first | (go_at_call 13; (with_reducible refine (ZSign_any za.drw (by omega)).mono ?_); rintro e v16 ⟨rfl, hb1⟩; replace hb1 := undrew hb1; replace x_a := x_a.keep hb1; replace x_b := x_b.keep hb1; replace x_x := x_x.keep hb1; replace x_o := x_o.keep hb1; replace za := za.keep hb1; replace zb := zb.keep hb1; replace hb := bthen hb hb1; clear hb1; replace q_a0 := x_a.c0; replace q_a1 := x_a.c1; replace f_a0 := x_a.fr 0; replace f_a1 := x_a.fr 1; replace q_b0 := x_b.c0; replace q_b1 := x_b.c1; replace f_b0 := x_b.fr 0; replace f_b1 := x_b.fr 1; replace q_x0 := x_x.c0; replace q_x1 := x_x.c1; replace f_x0 := x_x.fr 0; replace f_x1 := x_x.fr 1; replace q_o0 := x_o.c0; replace q_o1 := x_o.c1; replace f_o0 := x_o.fr 0; replace f_o1 := x_o.fr 1; rw [H1.out]) | (go_at_call 14; (with_reducible refine (RSignZ_any za (by omega)).mono ?_); rintro e v17 ⟨rfl, hb1⟩; replace x_a := x_a.keep hb1; replace x_b := x_b.keep hb1; replace x_x := x_x.keep hb1; replace x_o := x_o.keep hb1; replace za := za.keep hb1; replace zb := zb.keep hb1; replace hb := bthen hb hb1; clear hb1; replace q_a0 := x_a.c0; replace q_a1 := x_a.c1; replace f_a0 := x_a.fr 0; replace f_a1 := x_a.fr 1; replace q_b0 := x_b.c0; replace q_b1 := x_b.c1; replace f_b0 := x_b.fr 0; replace f_b1 := x_b.fr 1; replace q_x0 := x_x.c0; replace q_x1 := x_x.c1; replace f_x0 := x_x.fr 0; replace f_x1 := x_x.fr 1; replace q_o0 := x_o.c0; replace q_o1 := x_o.c1; replace f_o0 := x_o.fr 0; replace f_o1 := x_o.fr 1; rw [H1.out]) | (go_at_call 15; (with_reducible refine (ZCmp_any za zb (by omega) (by omega)).mono ?_); rintro e v18 ⟨rfl, hb1⟩; replace x_a := x_a.keep hb1; replace x_b := x_b.keep hb1; replace x_x := x_x.keep hb1; replace x_o := x_o.keep hb1; replace za := za.keep hb1; replace zb := zb.keep hb1; replace hb := bthen hb hb1; clear hb1; replace q_a0 := x_a.c0; replace q_a1 := x_a.c1; replace f_a0 := x_a.fr 0; replace f_a1 := x_a.fr 1; replace q_b0 := x_b.c0; replace q_b1 := x_b.c1; replace f_b0 := x_b.fr 0; replace f_b1 := x_b.fr 1; replace q_x0 := x_x.c0; replace q_x1 := x_x.c1; replace f_x0 := x_x.fr 0; replace f_x1 := x_x.fr 1; replace q_o0 := x_o.c0; replace q_o1 := x_o.c1; replace f_o0 := x_o.fr 0; replace f_o1 := x_o.fr 1; rw [H2.out]) | (go_at_call 16; (with_reducible refine (RCmpZ_any za zb 41 (by omega) (by omega) (by omega)).mono ?_); rintro e v19 ⟨rfl, hb1⟩; replace x_a := x_a.keep hb1; replace x_b := x_b.keep hb1; replace x_x := x_x.keep hb1; replace x_o := x_o.keep hb1; replace za := za.keep hb1; replace zb := zb.keep hb1; replace hb := bthen hb hb1; clear hb1; replace q_a0 := x_a.c0; replace q_a1 := x_a.c1; replace f_a0 := x_a.fr 0; replace f_a1 := x_a.fr 1; replace q_b0 := x_b.c0; replace q_b1 := x_b.c1; replace f_b0 := x_b.fr 0; replace f_b1 := x_b.fr 1; replace q_x0 := x_x.c0; replace q_x1 := x_x.c1; replace f_x0 := x_x.fr 0; replace f_x1 := x_x.fr 1; replace q_o0 := x_o.c0; replace q_o1 := x_o.c1; replace f_o0 := x_o.fr 0; replace f_o1 := x_o.fr 1; rw [H2.out]) | (go_at_call 17; (with_reducible refine (ZSame_any za zb (by omega) (by omega)).mono ?_); rintro e v20 ⟨rfl, hb1⟩; replace x_a := x_a.keep hb1; replace x_b := x_b.keep hb1; replace x_x := x_x.keep hb1; replace x_o := x_o.keep hb1; replace za := za.keep hb1; replace zb := zb.keep hb1; replace hb := bthen hb hb1; clear hb1; replace q_a0 := x_a.c0; replace q_a1 := x_a.c1; replace f_a0 := x_a.fr 0; replace f_a1 := x_a.fr 1; replace q_b0 := x_b.c0; replace q_b1 := x_b.c1; replace f_b0 := x_b.fr 0; replace f_b1 := x_b.fr 1; replace q_x0 := x_x.c0; replace q_x1 := x_x.c1; replace f_x0 := x_x.fr 0; replace f_x1 := x_x.fr 1; replace q_o0 := x_o.c0; replace q_o1 := x_o.c1; replace f_o0 := x_o.fr 0; replace f_o1 := x_o.fr 1; rw [H3.out]) | (go_at_call 18; (with_reducible refine (RSameZ_any za zb 41 (by omega) (by omega) (by omega)).mono ?_); rintro e v21 ⟨rfl, hb1⟩; replace x_a := x_a.keep hb1; replace x_b := x_b.keep hb1; replace x_x := x_x.keep hb1; replace x_o := x_o.keep hb1; replace za := za.keep hb1; replace zb := zb.keep hb1; replace hb := bthen hb hb1; clear hb1; replace q_a0 := x_a.c0; replace q_a1 := x_a.c1; replace f_a0 := x_a.fr 0; replace f_a1 := x_a.fr 1; replace q_b0 := x_b.c0; replace q_b1 := x_b.c1; replace f_b0 := x_b.fr 0; replace f_b1 := x_b.fr 1; replace q_x0 := x_x.c0; replace q_x1 := x_x.c1; replace f_x0 := x_x.fr 0; replace f_x1 := x_x.fr 1; replace q_o0 := x_o.c0; replace q_o1 := x_o.c1; replace f_o0 := x_o.fr 0; replace f_o1 := x_o.fr 1; rw [H3.out]) | (go_at_call 19; (with_reducible refine (ZBitLen_any za).mono ?_); rintro e v22 ⟨rfl, hb1⟩; replace x_a := x_a.keep hb1; replace x_b := x_b.keep hb1; replace x_x := x_x.keep hb1; replace x_o := x_o.keep hb1; replace za := za.keep hb1; replace zb := zb.keep hb1; replace hb := bthen hb hb1; clear hb1; replace q_a0 := x_a.c0; replace q_a1 := x_a.c1; replace f_a0 := x_a.fr 0; replace f_a1 := x_a.fr 1; replace q_b0 := x_b.c0; replace q_b1 := x_b.c1; replace f_b0 := x_b.fr 0; replace f_b1 := x_b.fr 1; replace q_x0 := x_x.c0; replace q_x1 := x_x.c1; replace f_x0 := x_x.fr 0; replace f_x1 := x_x.fr 1; replace q_o0 := x_o.c0; replace q_o1 := x_o.c1; replace f_o0 := x_o.fr 0; replace f_o1 := x_o.fr 1; rw [H4.out]) | (go_at_call 20; (with_reducible refine (RBitLenZ_any za (by omega)).mono ?_); rintro e v23 ⟨rfl, hb1⟩; replace x_a := x_a.keep hb1; replace x_b := x_b.keep hb1; replace x_x := x_x.keep hb1; replace x_o := x_o.keep hb1; replace za := za.keep hb1; replace zb := zb.keep hb1; replace hb := bthen hb hb1; clear hb1; replace q_a0 := x_a.c0; replace q_a1 := x_a.c1; replace f_a0 := x_a.fr 0; replace f_a1 := x_a.fr 1; replace q_b0 := x_b.c0; replace q_b1 := x_b.c1; replace f_b0 := x_b.fr 0; replace f_b1 := x_b.fr 1; replace q_x0 := x_x.c0; replace q_x1 := x_x.c1; replace f_x0 := x_x.fr 0; replace f_x1 := x_x.fr 1; replace q_o0 := x_o.c0; replace q_o1 := x_o.c1; replace f_o0 := x_o.fr 0; replace f_o1 := x_o.fr 1; rw [H4.out]))
        go_wp2
        go_ret
        exact ⟨by simp, hb⟩

end Go.Proofs.Ytcoidcbbdibnaaa
