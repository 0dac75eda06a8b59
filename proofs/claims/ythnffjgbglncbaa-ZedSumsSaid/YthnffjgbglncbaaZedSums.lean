/-
  The law ZedSums, as a call.
-/
import Derived.Test.YthnffjgbglncbaaZshown
import Derived.Test.YthnffjgbglncbaaZref2
namespace Go.Proofs.Ythnffjgbglncbaa
open Go.RowKit
set_option linter.unusedVariables false

set_option maxRecDepth 100000 in
set_option maxHeartbeats 16000000 in
theorem ZedSums_any {b b2 : Bool} {A A2 : Option Addr} {n c n2 c2 : Nat} {l l2 : List Int} {w : World} (h : Rd w w.heap.size A n c l) (h2 : Rd w w.heap.size A2 n2 c2 l2) :
    Calls Try.prog 5 #[.agg #[.bool b, .slice A n c], .agg #[.bool b2, .slice A2 n2 c2]] w fun e w' => e = .returned (.bool true) ∧ Below w.heap.size w w' := by
  go_enter Try.func5, Try.ntmps5
  go_wp2_with fail
  obtain ⟨hb, x_a, x_b⟩ := box2 w b A n c b2 A2 n2 c2
  generalize (w.alloc (.cells #[.bool b, .slice A n c] 24)).alloc (.cells #[.bool b2, .slice A2 n2 c2] 24) = v1 at *
  replace h := h.go hb
  replace h2 := h2.go hb
  have q_a0 := x_a.c0; have q_a1 := x_a.c1; have f_a0 := x_a.fr 0; have f_a1 := x_a.fr 1
  have q_b0 := x_b.c0; have q_b1 := x_b.c1; have f_b0 := x_b.fr 0; have f_b1 := x_b.fr 1
  go_wp2_with fail
  with_reducible refine (Zshown_any _).mono ?_
  rintro e v2 ⟨rfl, hb1⟩
  replace x_a := x_a.keep hb1
  replace x_b := x_b.keep hb1
  replace h := h.go hb1
  replace h2 := h2.go hb1
  replace hb := bthen hb hb1
  clear hb1
  replace q_a0 := x_a.c0; replace q_a1 := x_a.c1; replace f_a0 := x_a.fr 0; replace f_a1 := x_a.fr 1
  replace q_b0 := x_b.c0; replace q_b1 := x_b.c1; replace f_b0 := x_b.fr 0; replace f_b1 := x_b.fr 1
  go_wp2_with fail
  with_reducible refine (Zcut_at h 40 40 rfl (by omega)).mono ?_
  rintro e v3 ⟨Aa_, na_, ca_, rfl, pa, ka, hb1⟩
  replace x_a := x_a.keep hb1
  replace x_b := x_b.keep hb1
  replace h := h.go hb1
  replace h2 := h2.go hb1
  replace hb := bthen hb hb1
  clear hb1
  replace q_a0 := x_a.c0; replace q_a1 := x_a.c1; replace f_a0 := x_a.fr 0; replace f_a1 := x_a.fr 1
  replace q_b0 := x_b.c0; replace q_b1 := x_b.c1; replace f_b0 := x_b.fr 0; replace f_b1 := x_b.fr 1
  obtain ⟨A, za⟩ : ∃ X, Zr _ b Aa_ na_ ca_ X 40 := ⟨_, _, pa, rfl, ka⟩
  clear pa ka
  clear h
  go_wp2_with fail
  replace x_b := x_b.aside (b' := b) (A' := Aa_) (n' := na_) (c' := ca_) (g := w.heap.size) (by omega)
  replace h2 := h2.sput (b' := b) (A' := Aa_) (n' := na_) (c' := ca_) x_a
  replace za := za.put (b' := b) (A' := Aa_) (n' := na_) (c' := ca_) x_a
  replace hb := put_below (g := w.heap.size) hb (by omega) (.bool b) (.slice Aa_ na_ ca_)
  replace x_a := x_a.put b Aa_ na_ ca_
  clear q_a0 q_a1 f_a0 f_a1 q_b0 q_b1 f_b0 f_b1
  generalize (v3.setCell ⟨w.heap.size, 0, none⟩ (.bool b)).setCell ⟨w.heap.size, 1, none⟩ (.slice Aa_ na_ ca_) = v4 at *
  have q_a0 := x_a.c0; have q_a1 := x_a.c1; have f_a0 := x_a.fr 0; have f_a1 := x_a.fr 1
  have q_b0 := x_b.c0; have q_b1 := x_b.c1; have f_b0 := x_b.fr 0; have f_b1 := x_b.fr 1
  with_reducible refine (Zcut_at h2 40 40 rfl (by omega)).mono ?_
  rintro e v5 ⟨Ab_, nb_, cb_, rfl, pb, kb, hb1⟩
  replace x_a := x_a.keep hb1
  replace x_b := x_b.keep hb1
  replace h2 := h2.go hb1
  replace za := za.keep hb1
  replace hb := bthen hb hb1
  clear hb1
  replace q_a0 := x_a.c0; replace q_a1 := x_a.c1; replace f_a0 := x_a.fr 0; replace f_a1 := x_a.fr 1
  replace q_b0 := x_b.c0; replace q_b1 := x_b.c1; replace f_b0 := x_b.fr 0; replace f_b1 := x_b.fr 1
  obtain ⟨B, zb⟩ : ∃ X, Zr _ b2 Ab_ nb_ cb_ X 40 := ⟨_, _, pb, rfl, kb⟩
  clear pb kb
  clear h2
  go_wp2_with fail
  replace x_a := x_a.aside (b' := b2) (A' := Ab_) (n' := nb_) (c' := cb_) (g := w.heap.size + 1) (by omega)
  replace za := za.put (b' := b2) (A' := Ab_) (n' := nb_) (c' := cb_) x_b
  replace zb := zb.put (b' := b2) (A' := Ab_) (n' := nb_) (c' := cb_) x_b
  replace hb := put_below (g := w.heap.size + 1) hb (by omega) (.bool b2) (.slice Ab_ nb_ cb_)
  replace x_b := x_b.put b2 Ab_ nb_ cb_
  clear q_a0 q_a1 f_a0 f_a1 q_b0 q_b1 f_b0 f_b1
  generalize (v5.setCell ⟨w.heap.size + 1, 0, none⟩ (.bool b2)).setCell ⟨w.heap.size + 1, 1, none⟩ (.slice Ab_ nb_ cb_) = v6 at *
  have q_a0 := x_a.c0; have q_a1 := x_a.c1; have f_a0 := x_a.fr 0; have f_a1 := x_a.fr 1
  have q_b0 := x_b.c0; have q_b1 := x_b.c1; have f_b0 := x_b.fr 0; have f_b1 := x_b.fr 1
  go_region_held3 (fun w' => w'.cell? ⟨w.heap.size, 0, none⟩ = some (.bool b) ∧ w'.cell? ⟨w.heap.size, 1, none⟩ = some (.slice Aa_ na_ ca_) ∧ w'.cell? ⟨w.heap.size + 1, 0, none⟩ = some (.bool b2) ∧ w'.cell? ⟨w.heap.size + 1, 1, none⟩ = some (.slice Ab_ nb_ cb_))
    (first | (with_reducible exact ⟨x_a.c0, x_a.c1, x_b.c0, x_b.c1⟩) | (with_reducible exact ⟨(x_a.aside (by omega)).c0, (x_a.aside (by omega)).c1, (x_b.aside (by omega)).c0, (x_b.aside (by omega)).c1⟩) | (with_reducible exact ⟨((x_a.aside (by omega)).aside (by omega)).c0, ((x_a.aside (by omega)).aside (by omega)).c1, ((x_b.aside (by omega)).aside (by omega)).c0, ((x_b.aside (by omega)).aside (by omega)).c1⟩) | go_keep)
    (first | (go_at_call 31; (with_reducible refine (ZAdd_any za.drw zb.drw 41 (by omega) (by omega) (by omega)).mono ?_); rintro e v7 ⟨A4, n4, c4, rfl, s1, hb1⟩; replace hb1 := undrew hb1; replace x_a := x_a.keep hb1; replace x_b := x_b.keep hb1; replace za := za.keep hb1; replace zb := zb.keep hb1; replace hb := bthen hb hb1; clear hb1; replace q_a0 := x_a.c0; replace q_a1 := x_a.c1; replace f_a0 := x_a.fr 0; replace f_a1 := x_a.fr 1; replace q_b0 := x_b.c0; replace q_b1 := x_b.c1; replace f_b0 := x_b.fr 0; replace f_b1 := x_b.fr 1) | (go_at_call 32; (with_reducible refine (RAddZ_any za zb 41 (by omega) (by omega) (by omega)).mono ?_); rintro e v8 ⟨A5, n5, c5, rfl, s2, hb1⟩; replace x_a := x_a.keep hb1; replace x_b := x_b.keep hb1; replace za := za.keep hb1; replace zb := zb.keep hb1; replace s1 := s1.keep hb1; replace hb := bthen hb hb1; clear hb1; replace q_a0 := x_a.c0; replace q_a1 := x_a.c1; replace f_a0 := x_a.fr 0; replace f_a1 := x_a.fr 1; replace q_b0 := x_b.c0; replace q_b1 := x_b.c1; replace f_b0 := x_b.fr 0; replace f_b1 := x_b.fr 1) | (go_at_call 16; (with_reducible refine (Zequal_any s1 s2 rfl).mono ?_); rintro e v9 ⟨rfl, hb1⟩; replace x_a := x_a.keep hb1; replace x_b := x_b.keep hb1; replace za := za.keep hb1; replace zb := zb.keep hb1; replace s1 := s1.keep hb1; replace s2 := s2.keep hb1; replace hb := bthen hb hb1; clear hb1; replace q_a0 := x_a.c0; replace q_a1 := x_a.c1; replace f_a0 := x_a.fr 0; replace f_a1 := x_a.fr 1; replace q_b0 := x_b.c0; replace q_b1 := x_b.c1; replace f_b0 := x_b.fr 0; replace f_b1 := x_b.fr 1))
  clear s1 s2
  go_wp2_with fail
  go_region_held3 (fun w' => w'.cell? ⟨w.heap.size, 0, none⟩ = some (.bool b) ∧ w'.cell? ⟨w.heap.size, 1, none⟩ = some (.slice Aa_ na_ ca_) ∧ w'.cell? ⟨w.heap.size + 1, 0, none⟩ = some (.bool b2) ∧ w'.cell? ⟨w.heap.size + 1, 1, none⟩ = some (.slice Ab_ nb_ cb_))
    (first | (with_reducible exact ⟨x_a.c0, x_a.c1, x_b.c0, x_b.c1⟩) | (with_reducible exact ⟨(x_a.aside (by omega)).c0, (x_a.aside (by omega)).c1, (x_b.aside (by omega)).c0, (x_b.aside (by omega)).c1⟩) | (with_reducible exact ⟨((x_a.aside (by omega)).aside (by omega)).c0, ((x_a.aside (by omega)).aside (by omega)).c1, ((x_b.aside (by omega)).aside (by omega)).c0, ((x_b.aside (by omega)).aside (by omega)).c1⟩) | go_keep)
    (first | (go_at_call 33; (with_reducible refine (ZSub_any za.drw zb.drw 41 (by omega) (by omega) (by omega)).mono ?_); rintro e v10 ⟨A4, n4, c4, rfl, s1, hb1⟩; replace hb1 := undrew hb1; replace x_a := x_a.keep hb1; replace x_b := x_b.keep hb1; replace za := za.keep hb1; replace zb := zb.keep hb1; replace hb := bthen hb hb1; clear hb1; replace q_a0 := x_a.c0; replace q_a1 := x_a.c1; replace f_a0 := x_a.fr 0; replace f_a1 := x_a.fr 1; replace q_b0 := x_b.c0; replace q_b1 := x_b.c1; replace f_b0 := x_b.fr 0; replace f_b1 := x_b.fr 1) | (go_at_call 34; (with_reducible refine (RSubZ_any za zb 41 (by omega) (by omega) (by omega)).mono ?_); rintro e v11 ⟨A5, n5, c5, rfl, s2, hb1⟩; replace x_a := x_a.keep hb1; replace x_b := x_b.keep hb1; replace za := za.keep hb1; replace zb := zb.keep hb1; replace s1 := s1.keep hb1; replace hb := bthen hb hb1; clear hb1; replace q_a0 := x_a.c0; replace q_a1 := x_a.c1; replace f_a0 := x_a.fr 0; replace f_a1 := x_a.fr 1; replace q_b0 := x_b.c0; replace q_b1 := x_b.c1; replace f_b0 := x_b.fr 0; replace f_b1 := x_b.fr 1) | (go_at_call 16; (with_reducible refine (Zequal_any s1 s2 rfl).mono ?_); rintro e v12 ⟨rfl, hb1⟩; replace x_a := x_a.keep hb1; replace x_b := x_b.keep hb1; replace za := za.keep hb1; replace zb := zb.keep hb1; replace s1 := s1.keep hb1; replace s2 := s2.keep hb1; replace hb := bthen hb hb1; clear hb1; replace q_a0 := x_a.c0; replace q_a1 := x_a.c1; replace f_a0 := x_a.fr 0; replace f_a1 := x_a.fr 1; replace q_b0 := x_b.c0; replace q_b1 := x_b.c1; replace f_b0 := x_b.fr 0; replace f_b1 := x_b.fr 1))
  clear s1 s2
  go_wp2_with fail
  go_region_held3 (fun w' => w'.cell? ⟨w.heap.size, 0, none⟩ = some (.bool b) ∧ w'.cell? ⟨w.heap.size, 1, none⟩ = some (.slice Aa_ na_ ca_) ∧ w'.cell? ⟨w.heap.size + 1, 0, none⟩ = some (.bool b2) ∧ w'.cell? ⟨w.heap.size + 1, 1, none⟩ = some (.slice Ab_ nb_ cb_))
    (first | (with_reducible exact ⟨x_a.c0, x_a.c1, x_b.c0, x_b.c1⟩) | (with_reducible exact ⟨(x_a.aside (by omega)).c0, (x_a.aside (by omega)).c1, (x_b.aside (by omega)).c0, (x_b.aside (by omega)).c1⟩) | (with_reducible exact ⟨((x_a.aside (by omega)).aside (by omega)).c0, ((x_a.aside (by omega)).aside (by omega)).c1, ((x_b.aside (by omega)).aside (by omega)).c0, ((x_b.aside (by omega)).aside (by omega)).c1⟩) | go_keep)
    (first | (go_at_call 35; (with_reducible refine (ZMul_any za.drw zb.drw 80 (by omega) (by omega)).mono ?_); rintro e v13 ⟨A4, n4, c4, rfl, s1, hb1⟩; replace hb1 := undrew hb1; replace x_a := x_a.keep hb1; replace x_b := x_b.keep hb1; replace za := za.keep hb1; replace zb := zb.keep hb1; replace hb := bthen hb hb1; clear hb1; replace q_a0 := x_a.c0; replace q_a1 := x_a.c1; replace f_a0 := x_a.fr 0; replace f_a1 := x_a.fr 1; replace q_b0 := x_b.c0; replace q_b1 := x_b.c1; replace f_b0 := x_b.fr 0; replace f_b1 := x_b.fr 1) | (go_at_call 36; (with_reducible refine (RMulZ_any za zb 80 (by omega) (by omega)).mono ?_); rintro e v14 ⟨A5, n5, c5, rfl, s2, hb1⟩; replace x_a := x_a.keep hb1; replace x_b := x_b.keep hb1; replace za := za.keep hb1; replace zb := zb.keep hb1; replace s1 := s1.keep hb1; replace hb := bthen hb hb1; clear hb1; replace q_a0 := x_a.c0; replace q_a1 := x_a.c1; replace f_a0 := x_a.fr 0; replace f_a1 := x_a.fr 1; replace q_b0 := x_b.c0; replace q_b1 := x_b.c1; replace f_b0 := x_b.fr 0; replace f_b1 := x_b.fr 1) | (go_at_call 16; (with_reducible refine (Zequal_any s1 s2 rfl).mono ?_); rintro e v15 ⟨rfl, hb1⟩; replace x_a := x_a.keep hb1; replace x_b := x_b.keep hb1; replace za := za.keep hb1; replace zb := zb.keep hb1; replace s1 := s1.keep hb1; replace s2 := s2.keep hb1; replace hb := bthen hb hb1; clear hb1; replace q_a0 := x_a.c0; replace q_a1 := x_a.c1; replace f_a0 := x_a.fr 0; replace f_a1 := x_a.fr 1; replace q_b0 := x_b.c0; replace q_b1 := x_b.c1; replace f_b0 := x_b.fr 0; replace f_b1 := x_b.fr 1))
  clear s1 s2
  go_wp2_with fail
  go_region_held3 (fun w' => w'.cell? ⟨w.heap.size, 0, none⟩ = some (.bool b) ∧ w'.cell? ⟨w.heap.size, 1, none⟩ = some (.slice Aa_ na_ ca_))
    (first | (with_reducible exact ⟨x_a.c0, x_a.c1⟩) | (with_reducible exact ⟨(x_a.aside (by omega)).c0, (x_a.aside (by omega)).c1⟩) | (with_reducible exact ⟨((x_a.aside (by omega)).aside (by omega)).c0, ((x_a.aside (by omega)).aside (by omega)).c1⟩) | go_keep)
    (first | (go_at_call 37; (with_reducible refine (ZNeg_any za.drw 40 (by omega)).mono ?_); rintro e v16 ⟨A4, n4, c4, rfl, s1, hb1⟩; replace hb1 := undrew hb1; replace x_a := x_a.keep hb1; replace x_b := x_b.keep hb1; replace za := za.keep hb1; replace zb := zb.keep hb1; replace hb := bthen hb hb1; clear hb1; replace q_a0 := x_a.c0; replace q_a1 := x_a.c1; replace f_a0 := x_a.fr 0; replace f_a1 := x_a.fr 1; replace q_b0 := x_b.c0; replace q_b1 := x_b.c1; replace f_b0 := x_b.fr 0; replace f_b1 := x_b.fr 1) | (go_at_call 38; (with_reducible refine (RNegZ_any za 40 (by omega) (by omega)).mono ?_); rintro e v17 ⟨A5, n5, c5, rfl, s2, hb1⟩; replace x_a := x_a.keep hb1; replace x_b := x_b.keep hb1; replace za := za.keep hb1; replace zb := zb.keep hb1; replace s1 := s1.keep hb1; replace hb := bthen hb hb1; clear hb1; replace q_a0 := x_a.c0; replace q_a1 := x_a.c1; replace f_a0 := x_a.fr 0; replace f_a1 := x_a.fr 1; replace q_b0 := x_b.c0; replace q_b1 := x_b.c1; replace f_b0 := x_b.fr 0; replace f_b1 := x_b.fr 1) | (go_at_call 16; (with_reducible refine (Zequal_any s1 s2 rfl).mono ?_); rintro e v18 ⟨rfl, hb1⟩; replace x_a := x_a.keep hb1; replace x_b := x_b.keep hb1; replace za := za.keep hb1; replace zb := zb.keep hb1; replace s1 := s1.keep hb1; replace s2 := s2.keep hb1; replace hb := bthen hb hb1; clear hb1; replace q_a0 := x_a.c0; replace q_a1 := x_a.c1; replace f_a0 := x_a.fr 0; replace f_a1 := x_a.fr 1; replace q_b0 := x_b.c0; replace q_b1 := x_b.c1; replace f_b0 := x_b.fr 0; replace f_b1 := x_b.fr 1))
  clear s1 s2
  go_wp2_with fail
  go_region_held3 (fun w' => w'.cell? ⟨w.heap.size, 0, none⟩ = some (.bool b) ∧ w'.cell? ⟨w.heap.size, 1, none⟩ = some (.slice Aa_ na_ ca_))
    (first | (with_reducible exact ⟨x_a.c0, x_a.c1⟩) | (with_reducible exact ⟨(x_a.aside (by omega)).c0, (x_a.aside (by omega)).c1⟩) | (with_reducible exact ⟨((x_a.aside (by omega)).aside (by omega)).c0, ((x_a.aside (by omega)).aside (by omega)).c1⟩) | go_keep)
    (first | (go_at_call 39; (with_reducible refine (ZAbs_any za.drw 40 (by omega)).mono ?_); rintro e v19 ⟨A4, n4, c4, rfl, s1, hb1⟩; replace hb1 := undrew hb1; replace x_a := x_a.keep hb1; replace x_b := x_b.keep hb1; replace za := za.keep hb1; replace zb := zb.keep hb1; replace hb := bthen hb hb1; clear hb1; replace q_a0 := x_a.c0; replace q_a1 := x_a.c1; replace f_a0 := x_a.fr 0; replace f_a1 := x_a.fr 1; replace q_b0 := x_b.c0; replace q_b1 := x_b.c1; replace f_b0 := x_b.fr 0; replace f_b1 := x_b.fr 1) | (go_at_call 40; (with_reducible refine (RAbsZ_any za 40 (by omega) (by omega)).mono ?_); rintro e v20 ⟨A5, n5, c5, rfl, s2, hb1⟩; replace x_a := x_a.keep hb1; replace x_b := x_b.keep hb1; replace za := za.keep hb1; replace zb := zb.keep hb1; replace s1 := s1.keep hb1; replace hb := bthen hb hb1; clear hb1; replace q_a0 := x_a.c0; replace q_a1 := x_a.c1; replace f_a0 := x_a.fr 0; replace f_a1 := x_a.fr 1; replace q_b0 := x_b.c0; replace q_b1 := x_b.c1; replace f_b0 := x_b.fr 0; replace f_b1 := x_b.fr 1) | (go_at_call 16; (with_reducible refine (Zequal_any s1 s2 rfl).mono ?_); rintro e v21 ⟨rfl, hb1⟩; replace x_a := x_a.keep hb1; replace x_b := x_b.keep hb1; replace za := za.keep hb1; replace zb := zb.keep hb1; replace s1 := s1.keep hb1; replace s2 := s2.keep hb1; replace hb := bthen hb hb1; clear hb1; replace q_a0 := x_a.c0; replace q_a1 := x_a.c1; replace f_a0 := x_a.fr 0; replace f_a1 := x_a.fr 1; replace q_b0 := x_b.c0; replace q_b1 := x_b.c1; replace f_b0 := x_b.fr 0; replace f_b1 := x_b.fr 1))
  clear s1 s2
  go_wp2
  go_ret
  exact ⟨rfl, hb⟩

end Go.Proofs.Ythnffjgbglncbaa
