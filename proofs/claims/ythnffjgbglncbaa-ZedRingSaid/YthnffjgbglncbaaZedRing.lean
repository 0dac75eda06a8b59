/-
  The law ZedRing, as a call.
-/
import Derived.Test.YthnffjgbglncbaaZshown
namespace Go.Proofs.Ythnffjgbglncbaa
open Go.RowKit
set_option linter.unusedVariables false

theorem sgn_mul (X Y : Int) : sgnI (X * Y) = sgnI X * sgnI Y := by
  rcases Int.lt_trichotomy X 0 with hx | hx | hx <;> rcases Int.lt_trichotomy Y 0 with hy | hy | hy
  · have := Int.mul_pos_of_neg_of_neg hx hy; unfold sgnI; rw [if_neg (by omega), if_neg (by omega), if_pos hx, if_pos hy]; rfl
  · subst hy; simp [sgnI]
  · have := Int.mul_neg_of_neg_of_pos hx hy; unfold sgnI; rw [if_pos this, if_pos hx, if_neg (by omega), if_neg (by omega)]; rfl
  · subst hx; simp [sgnI]
  · subst hx; simp [sgnI]
  · subst hx; simp [sgnI]
  · have := Int.mul_neg_of_pos_of_neg hx hy; unfold sgnI; rw [if_pos this, if_neg (by omega), if_neg (by omega), if_pos hy]; rfl
  · subst hy; simp [sgnI]
  · have := Int.mul_pos hx hy; unfold sgnI; rw [if_neg (by omega), if_neg (by omega), if_neg (by omega), if_neg (by omega), if_neg (by omega), if_neg (by omega)]; rfl
theorem sgn_neg (X : Int) : sgnI (-X) = -sgnI X := by
  unfold sgnI
  split <;> split <;> (try split) <;> (try split) <;> omega

set_option maxRecDepth 100000 in
set_option maxHeartbeats 16000000 in
theorem ZedRing_any {b b2 b3 : Bool} {A A2 A3 : Option Addr} {n c n2 c2 n3 c3 : Nat} {l l2 l3 : List Int} {w : World} (h : Rd w w.heap.size A n c l) (h2 : Rd w w.heap.size A2 n2 c2 l2) (h3 : Rd w w.heap.size A3 n3 c3 l3) :
    Calls Try.prog 10 #[.agg #[.bool b, .slice A n c], .agg #[.bool b2, .slice A2 n2 c2], .agg #[.bool b3, .slice A3 n3 c3]] w fun e w' => e = .returned (.bool true) ∧ Below w.heap.size w w' := by
  go_enter Try.func10, Try.ntmps10
  go_wp2_with fail
  obtain ⟨hb, x_a, x_b, x_c⟩ := box3 w b A n c b2 A2 n2 c2 b3 A3 n3 c3
  generalize ((w.alloc (.cells #[.bool b, .slice A n c] 24)).alloc (.cells #[.bool b2, .slice A2 n2 c2] 24)).alloc (.cells #[.bool b3, .slice A3 n3 c3] 24) = v1 at *
  replace h := h.go hb
  replace h2 := h2.go hb
  replace h3 := h3.go hb
  have q_a0 := x_a.c0; have q_a1 := x_a.c1; have f_a0 := x_a.fr 0; have f_a1 := x_a.fr 1
  have q_b0 := x_b.c0; have q_b1 := x_b.c1; have f_b0 := x_b.fr 0; have f_b1 := x_b.fr 1
  have q_c0 := x_c.c0; have q_c1 := x_c.c1; have f_c0 := x_c.fr 0; have f_c1 := x_c.fr 1
  go_wp2_with fail
  with_reducible refine (Zshown_any _).mono ?_
  rintro e v2 ⟨rfl, hb1⟩
  replace x_a := x_a.keep hb1
  replace x_b := x_b.keep hb1
  replace x_c := x_c.keep hb1
  replace h := h.go hb1
  replace h2 := h2.go hb1
  replace h3 := h3.go hb1
  replace hb := bthen hb hb1
  clear hb1
  replace q_a0 := x_a.c0; replace q_a1 := x_a.c1; replace f_a0 := x_a.fr 0; replace f_a1 := x_a.fr 1
  replace q_b0 := x_b.c0; replace q_b1 := x_b.c1; replace f_b0 := x_b.fr 0; replace f_b1 := x_b.fr 1
  replace q_c0 := x_c.c0; replace q_c1 := x_c.c1; replace f_c0 := x_c.fr 0; replace f_c1 := x_c.fr 1
  go_wp2_with fail
  with_reducible refine (Zcut_at h 10 10 rfl (by omega)).mono ?_
  rintro e v3 ⟨Aa_, na_, ca_, rfl, pa, ka, hb1⟩
  replace x_a := x_a.keep hb1
  replace x_b := x_b.keep hb1
  replace x_c := x_c.keep hb1
  replace h := h.go hb1
  replace h2 := h2.go hb1
  replace h3 := h3.go hb1
  replace hb := bthen hb hb1
  clear hb1
  replace q_a0 := x_a.c0; replace q_a1 := x_a.c1; replace f_a0 := x_a.fr 0; replace f_a1 := x_a.fr 1
  replace q_b0 := x_b.c0; replace q_b1 := x_b.c1; replace f_b0 := x_b.fr 0; replace f_b1 := x_b.fr 1
  replace q_c0 := x_c.c0; replace q_c1 := x_c.c1; replace f_c0 := x_c.fr 0; replace f_c1 := x_c.fr 1
  obtain ⟨A, za⟩ : ∃ X, Zr _ b Aa_ na_ ca_ X 10 := ⟨_, _, pa, rfl, ka⟩
  clear pa ka
  clear h
  go_wp2_with fail
  replace x_b := x_b.aside (b' := b) (A' := Aa_) (n' := na_) (c' := ca_) (g := w.heap.size) (by omega)
  replace x_c := x_c.aside (b' := b) (A' := Aa_) (n' := na_) (c' := ca_) (g := w.heap.size) (by omega)
  replace h2 := h2.sput (b' := b) (A' := Aa_) (n' := na_) (c' := ca_) x_a
  replace h3 := h3.sput (b' := b) (A' := Aa_) (n' := na_) (c' := ca_) x_a
  replace za := za.put (b' := b) (A' := Aa_) (n' := na_) (c' := ca_) x_a
  replace hb := put_below (g := w.heap.size) hb (by omega) (.bool b) (.slice Aa_ na_ ca_)
  replace x_a := x_a.put b Aa_ na_ ca_
  clear q_a0 q_a1 f_a0 f_a1 q_b0 q_b1 f_b0 f_b1 q_c0 q_c1 f_c0 f_c1
  generalize (v3.setCell ⟨w.heap.size, 0, none⟩ (.bool b)).setCell ⟨w.heap.size, 1, none⟩ (.slice Aa_ na_ ca_) = v4 at *
  have q_a0 := x_a.c0; have q_a1 := x_a.c1; have f_a0 := x_a.fr 0; have f_a1 := x_a.fr 1
  have q_b0 := x_b.c0; have q_b1 := x_b.c1; have f_b0 := x_b.fr 0; have f_b1 := x_b.fr 1
  have q_c0 := x_c.c0; have q_c1 := x_c.c1; have f_c0 := x_c.fr 0; have f_c1 := x_c.fr 1
  with_reducible refine (Zcut_at h2 10 10 rfl (by omega)).mono ?_
  rintro e v5 ⟨Ab_, nb_, cb_, rfl, pb, kb, hb1⟩
  replace x_a := x_a.keep hb1
  replace x_b := x_b.keep hb1
  replace x_c := x_c.keep hb1
  replace h2 := h2.go hb1
  replace h3 := h3.go hb1
  replace za := za.keep hb1
  replace hb := bthen hb hb1
  clear hb1
  replace q_a0 := x_a.c0; replace q_a1 := x_a.c1; replace f_a0 := x_a.fr 0; replace f_a1 := x_a.fr 1
  replace q_b0 := x_b.c0; replace q_b1 := x_b.c1; replace f_b0 := x_b.fr 0; replace f_b1 := x_b.fr 1
  replace q_c0 := x_c.c0; replace q_c1 := x_c.c1; replace f_c0 := x_c.fr 0; replace f_c1 := x_c.fr 1
  obtain ⟨B, zb⟩ : ∃ X, Zr _ b2 Ab_ nb_ cb_ X 10 := ⟨_, _, pb, rfl, kb⟩
  clear pb kb
  clear h2
  go_wp2_with fail
  replace x_a := x_a.aside (b' := b2) (A' := Ab_) (n' := nb_) (c' := cb_) (g := w.heap.size + 1) (by omega)
  replace x_c := x_c.aside (b' := b2) (A' := Ab_) (n' := nb_) (c' := cb_) (g := w.heap.size + 1) (by omega)
  replace h3 := h3.sput (b' := b2) (A' := Ab_) (n' := nb_) (c' := cb_) x_b
  replace za := za.put (b' := b2) (A' := Ab_) (n' := nb_) (c' := cb_) x_b
  replace zb := zb.put (b' := b2) (A' := Ab_) (n' := nb_) (c' := cb_) x_b
  replace hb := put_below (g := w.heap.size + 1) hb (by omega) (.bool b2) (.slice Ab_ nb_ cb_)
  replace x_b := x_b.put b2 Ab_ nb_ cb_
  clear q_a0 q_a1 f_a0 f_a1 q_b0 q_b1 f_b0 f_b1 q_c0 q_c1 f_c0 f_c1
  generalize (v5.setCell ⟨w.heap.size + 1, 0, none⟩ (.bool b2)).setCell ⟨w.heap.size + 1, 1, none⟩ (.slice Ab_ nb_ cb_) = v6 at *
  have q_a0 := x_a.c0; have q_a1 := x_a.c1; have f_a0 := x_a.fr 0; have f_a1 := x_a.fr 1
  have q_b0 := x_b.c0; have q_b1 := x_b.c1; have f_b0 := x_b.fr 0; have f_b1 := x_b.fr 1
  have q_c0 := x_c.c0; have q_c1 := x_c.c1; have f_c0 := x_c.fr 0; have f_c1 := x_c.fr 1
  with_reducible refine (Zcut_at h3 10 10 rfl (by omega)).mono ?_
  rintro e v7 ⟨Ac_, nc_, cc_, rfl, pc, kc, hb1⟩
  replace x_a := x_a.keep hb1
  replace x_b := x_b.keep hb1
  replace x_c := x_c.keep hb1
  replace h3 := h3.go hb1
  replace za := za.keep hb1
  replace zb := zb.keep hb1
  replace hb := bthen hb hb1
  clear hb1
  replace q_a0 := x_a.c0; replace q_a1 := x_a.c1; replace f_a0 := x_a.fr 0; replace f_a1 := x_a.fr 1
  replace q_b0 := x_b.c0; replace q_b1 := x_b.c1; replace f_b0 := x_b.fr 0; replace f_b1 := x_b.fr 1
  replace q_c0 := x_c.c0; replace q_c1 := x_c.c1; replace f_c0 := x_c.fr 0; replace f_c1 := x_c.fr 1
  obtain ⟨C, zc⟩ : ∃ X, Zr _ b3 Ac_ nc_ cc_ X 10 := ⟨_, _, pc, rfl, kc⟩
  clear pc kc
  clear h3
  go_wp2_with fail
  replace x_a := x_a.aside (b' := b3) (A' := Ac_) (n' := nc_) (c' := cc_) (g := w.heap.size + 1 + 1) (by omega)
  replace x_b := x_b.aside (b' := b3) (A' := Ac_) (n' := nc_) (c' := cc_) (g := w.heap.size + 1 + 1) (by omega)
  replace za := za.put (b' := b3) (A' := Ac_) (n' := nc_) (c' := cc_) x_c
  replace zb := zb.put (b' := b3) (A' := Ac_) (n' := nc_) (c' := cc_) x_c
  replace zc := zc.put (b' := b3) (A' := Ac_) (n' := nc_) (c' := cc_) x_c
  replace hb := put_below (g := w.heap.size + 1 + 1) hb (by omega) (.bool b3) (.slice Ac_ nc_ cc_)
  replace x_c := x_c.put b3 Ac_ nc_ cc_
  clear q_a0 q_a1 f_a0 f_a1 q_b0 q_b1 f_b0 f_b1 q_c0 q_c1 f_c0 f_c1
  generalize (v7.setCell ⟨w.heap.size + 1 + 1, 0, none⟩ (.bool b3)).setCell ⟨w.heap.size + 1 + 1, 1, none⟩ (.slice Ac_ nc_ cc_) = v8 at *
  have q_a0 := x_a.c0; have q_a1 := x_a.c1; have f_a0 := x_a.fr 0; have f_a1 := x_a.fr 1
  have q_b0 := x_b.c0; have q_b1 := x_b.c1; have f_b0 := x_b.fr 0; have f_b1 := x_b.fr 1
  have q_c0 := x_c.c0; have q_c1 := x_c.c1; have f_c0 := x_c.fr 0; have f_c1 := x_c.fr 1
  go_region_held3 (fun w' => w'.cell? ⟨w.heap.size, 0, none⟩ = some (.bool b) ∧ w'.cell? ⟨w.heap.size, 1, none⟩ = some (.slice Aa_ na_ ca_) ∧ w'.cell? ⟨w.heap.size + 1, 0, none⟩ = some (.bool b2) ∧ w'.cell? ⟨w.heap.size + 1, 1, none⟩ = some (.slice Ab_ nb_ cb_) ∧ w'.cell? ⟨w.heap.size + 1 + 1, 0, none⟩ = some (.bool b3) ∧ w'.cell? ⟨w.heap.size + 1 + 1, 1, none⟩ = some (.slice Ac_ nc_ cc_))
    (first | (with_reducible exact ⟨x_a.c0, x_a.c1, x_b.c0, x_b.c1, x_c.c0, x_c.c1⟩) | (with_reducible exact ⟨(x_a.aside (by omega)).c0, (x_a.aside (by omega)).c1, (x_b.aside (by omega)).c0, (x_b.aside (by omega)).c1, (x_c.aside (by omega)).c0, (x_c.aside (by omega)).c1⟩) | (with_reducible exact ⟨((x_a.aside (by omega)).aside (by omega)).c0, ((x_a.aside (by omega)).aside (by omega)).c1, ((x_b.aside (by omega)).aside (by omega)).c0, ((x_b.aside (by omega)).aside (by omega)).c1, ((x_c.aside (by omega)).aside (by omega)).c0, ((x_c.aside (by omega)).aside (by omega)).c1⟩) | go_keep)
    (first | (go_at_call 31; (with_reducible refine (ZAdd_any za.drw zb.drw 11 (by omega) (by omega) (by omega)).mono ?_); rintro e v9 ⟨A4, n4, c4, rfl, s1, hb1⟩; replace hb1 := undrew hb1; replace x_a := x_a.keep hb1; replace x_b := x_b.keep hb1; replace x_c := x_c.keep hb1; replace za := za.keep hb1; replace zb := zb.keep hb1; replace zc := zc.keep hb1; replace hb := bthen hb hb1; clear hb1; replace q_a0 := x_a.c0; replace q_a1 := x_a.c1; replace f_a0 := x_a.fr 0; replace f_a1 := x_a.fr 1; replace q_b0 := x_b.c0; replace q_b1 := x_b.c1; replace f_b0 := x_b.fr 0; replace f_b1 := x_b.fr 1; replace q_c0 := x_c.c0; replace q_c1 := x_c.c1; replace f_c0 := x_c.fr 0; replace f_c1 := x_c.fr 1) | (go_at_call 35; (with_reducible refine (ZMul_any s1.zr zc 21 (by omega) (by omega)).mono ?_); rintro e v10 ⟨A5, n5, c5, rfl, s2, hb1⟩; replace x_a := x_a.keep hb1; replace x_b := x_b.keep hb1; replace x_c := x_c.keep hb1; replace za := za.keep hb1; replace zb := zb.keep hb1; replace zc := zc.keep hb1; replace s1 := s1.keep hb1; replace hb := bthen hb hb1; clear hb1; replace q_a0 := x_a.c0; replace q_a1 := x_a.c1; replace f_a0 := x_a.fr 0; replace f_a1 := x_a.fr 1; replace q_b0 := x_b.c0; replace q_b1 := x_b.c1; replace f_b0 := x_b.fr 0; replace f_b1 := x_b.fr 1; replace q_c0 := x_c.c0; replace q_c1 := x_c.c1; replace f_c0 := x_c.fr 0; replace f_c1 := x_c.fr 1) | (go_at_call 35; (with_reducible refine (ZMul_any za zc 20 (by omega) (by omega)).mono ?_); rintro e v11 ⟨A6, n6, c6, rfl, s3, hb1⟩; replace x_a := x_a.keep hb1; replace x_b := x_b.keep hb1; replace x_c := x_c.keep hb1; replace za := za.keep hb1; replace zb := zb.keep hb1; replace zc := zc.keep hb1; replace s1 := s1.keep hb1; replace s2 := s2.keep hb1; replace hb := bthen hb hb1; clear hb1; replace q_a0 := x_a.c0; replace q_a1 := x_a.c1; replace f_a0 := x_a.fr 0; replace f_a1 := x_a.fr 1; replace q_b0 := x_b.c0; replace q_b1 := x_b.c1; replace f_b0 := x_b.fr 0; replace f_b1 := x_b.fr 1; replace q_c0 := x_c.c0; replace q_c1 := x_c.c1; replace f_c0 := x_c.fr 0; replace f_c1 := x_c.fr 1) | (go_at_call 35; (with_reducible refine (ZMul_any zb zc 20 (by omega) (by omega)).mono ?_); rintro e v12 ⟨A7, n7, c7, rfl, s4, hb1⟩; replace x_a := x_a.keep hb1; replace x_b := x_b.keep hb1; replace x_c := x_c.keep hb1; replace za := za.keep hb1; replace zb := zb.keep hb1; replace zc := zc.keep hb1; replace s1 := s1.keep hb1; replace s2 := s2.keep hb1; replace s3 := s3.keep hb1; replace hb := bthen hb hb1; clear hb1; replace q_a0 := x_a.c0; replace q_a1 := x_a.c1; replace f_a0 := x_a.fr 0; replace f_a1 := x_a.fr 1; replace q_b0 := x_b.c0; replace q_b1 := x_b.c1; replace f_b0 := x_b.fr 0; replace f_b1 := x_b.fr 1; replace q_c0 := x_c.c0; replace q_c1 := x_c.c1; replace f_c0 := x_c.fr 0; replace f_c1 := x_c.fr 1) | (go_at_call 31; (with_reducible refine (ZAdd_any s3.zr s4.zr 21 (by omega) (by omega) (by omega)).mono ?_); rintro e v13 ⟨A8, n8, c8, rfl, s5, hb1⟩; replace x_a := x_a.keep hb1; replace x_b := x_b.keep hb1; replace x_c := x_c.keep hb1; replace za := za.keep hb1; replace zb := zb.keep hb1; replace zc := zc.keep hb1; replace s1 := s1.keep hb1; replace s2 := s2.keep hb1; replace s3 := s3.keep hb1; replace s4 := s4.keep hb1; replace hb := bthen hb hb1; clear hb1; replace q_a0 := x_a.c0; replace q_a1 := x_a.c1; replace f_a0 := x_a.fr 0; replace f_a1 := x_a.fr 1; replace q_b0 := x_b.c0; replace q_b1 := x_b.c1; replace f_b0 := x_b.fr 0; replace f_b1 := x_b.fr 1; replace q_c0 := x_c.c0; replace q_c1 := x_c.c1; replace f_c0 := x_c.fr 0; replace f_c1 := x_c.fr 1) | (go_at_call 25; (with_reducible refine (ZSame_any s2.zr s5.zr (by omega) (by omega)).mono ?_); rintro e v14 ⟨rfl, hb1⟩; replace x_a := x_a.keep hb1; replace x_b := x_b.keep hb1; replace x_c := x_c.keep hb1; replace za := za.keep hb1; replace zb := zb.keep hb1; replace zc := zc.keep hb1; replace s1 := s1.keep hb1; replace s2 := s2.keep hb1; replace s3 := s3.keep hb1; replace s4 := s4.keep hb1; replace s5 := s5.keep hb1; replace hb := bthen hb hb1; clear hb1; replace q_a0 := x_a.c0; replace q_a1 := x_a.c1; replace f_a0 := x_a.fr 0; replace f_a1 := x_a.fr 1; replace q_b0 := x_b.c0; replace q_b1 := x_b.c1; replace f_b0 := x_b.fr 0; replace f_b1 := x_b.fr 1; replace q_c0 := x_c.c0; replace q_c1 := x_c.c1; replace f_c0 := x_c.fr 0; replace f_c1 := x_c.fr 1; rw [eqB_of (Int.add_mul A B C)]))
  clear s1 s2 s3 s4 s5
  go_wp2_with fail
  go_region_held3 (fun w' => w'.cell? ⟨w.heap.size, 0, none⟩ = some (.bool b) ∧ w'.cell? ⟨w.heap.size, 1, none⟩ = some (.slice Aa_ na_ ca_) ∧ w'.cell? ⟨w.heap.size + 1, 0, none⟩ = some (.bool b2) ∧ w'.cell? ⟨w.heap.size + 1, 1, none⟩ = some (.slice Ab_ nb_ cb_))
    (first | (with_reducible exact ⟨x_a.c0, x_a.c1, x_b.c0, x_b.c1⟩) | (with_reducible exact ⟨(x_a.aside (by omega)).c0, (x_a.aside (by omega)).c1, (x_b.aside (by omega)).c0, (x_b.aside (by omega)).c1⟩) | (with_reducible exact ⟨((x_a.aside (by omega)).aside (by omega)).c0, ((x_a.aside (by omega)).aside (by omega)).c1, ((x_b.aside (by omega)).aside (by omega)).c0, ((x_b.aside (by omega)).aside (by omega)).c1⟩) | go_keep)
    (first | (go_at_call 33; (with_reducible refine (ZSub_any za.drw zb.drw 11 (by omega) (by omega) (by omega)).mono ?_); rintro e v15 ⟨A4, n4, c4, rfl, s1, hb1⟩; replace hb1 := undrew hb1; replace x_a := x_a.keep hb1; replace x_b := x_b.keep hb1; replace x_c := x_c.keep hb1; replace za := za.keep hb1; replace zb := zb.keep hb1; replace zc := zc.keep hb1; replace hb := bthen hb hb1; clear hb1; replace q_a0 := x_a.c0; replace q_a1 := x_a.c1; replace f_a0 := x_a.fr 0; replace f_a1 := x_a.fr 1; replace q_b0 := x_b.c0; replace q_b1 := x_b.c1; replace f_b0 := x_b.fr 0; replace f_b1 := x_b.fr 1; replace q_c0 := x_c.c0; replace q_c1 := x_c.c1; replace f_c0 := x_c.fr 0; replace f_c1 := x_c.fr 1) | (go_at_call 33; (with_reducible refine (ZSub_any zb za 11 (by omega) (by omega) (by omega)).mono ?_); rintro e v16 ⟨A5, n5, c5, rfl, s2, hb1⟩; replace x_a := x_a.keep hb1; replace x_b := x_b.keep hb1; replace x_c := x_c.keep hb1; replace za := za.keep hb1; replace zb := zb.keep hb1; replace zc := zc.keep hb1; replace s1 := s1.keep hb1; replace hb := bthen hb hb1; clear hb1; replace q_a0 := x_a.c0; replace q_a1 := x_a.c1; replace f_a0 := x_a.fr 0; replace f_a1 := x_a.fr 1; replace q_b0 := x_b.c0; replace q_b1 := x_b.c1; replace f_b0 := x_b.fr 0; replace f_b1 := x_b.fr 1; replace q_c0 := x_c.c0; replace q_c1 := x_c.c1; replace f_c0 := x_c.fr 0; replace f_c1 := x_c.fr 1) | (go_at_call 37; (with_reducible refine (ZNeg_any s2.zr 11 (by omega)).mono ?_); rintro e v17 ⟨A6, n6, c6, rfl, s3, hb1⟩; replace x_a := x_a.keep hb1; replace x_b := x_b.keep hb1; replace x_c := x_c.keep hb1; replace za := za.keep hb1; replace zb := zb.keep hb1; replace zc := zc.keep hb1; replace s1 := s1.keep hb1; replace s2 := s2.keep hb1; replace hb := bthen hb hb1; clear hb1; replace q_a0 := x_a.c0; replace q_a1 := x_a.c1; replace f_a0 := x_a.fr 0; replace f_a1 := x_a.fr 1; replace q_b0 := x_b.c0; replace q_b1 := x_b.c1; replace f_b0 := x_b.fr 0; replace f_b1 := x_b.fr 1; replace q_c0 := x_c.c0; replace q_c1 := x_c.c1; replace f_c0 := x_c.fr 0; replace f_c1 := x_c.fr 1) | (go_at_call 25; (with_reducible refine (ZSame_any s1.zr s3.zr (by omega) (by omega)).mono ?_); rintro e v18 ⟨rfl, hb1⟩; replace x_a := x_a.keep hb1; replace x_b := x_b.keep hb1; replace x_c := x_c.keep hb1; replace za := za.keep hb1; replace zb := zb.keep hb1; replace zc := zc.keep hb1; replace s1 := s1.keep hb1; replace s2 := s2.keep hb1; replace s3 := s3.keep hb1; replace hb := bthen hb hb1; clear hb1; replace q_a0 := x_a.c0; replace q_a1 := x_a.c1; replace f_a0 := x_a.fr 0; replace f_a1 := x_a.fr 1; replace q_b0 := x_b.c0; replace q_b1 := x_b.c1; replace f_b0 := x_b.fr 0; replace f_b1 := x_b.fr 1; replace q_c0 := x_c.c0; replace q_c1 := x_c.c1; replace f_c0 := x_c.fr 0; replace f_c1 := x_c.fr 1; rw [eqB_of (show A - B = -(B - A) by omega)]))
  clear s1 s2 s3
  go_wp2_with fail
  go_region_held3 (fun w' => w'.cell? ⟨w.heap.size, 0, none⟩ = some (.bool b) ∧ w'.cell? ⟨w.heap.size, 1, none⟩ = some (.slice Aa_ na_ ca_) ∧ w'.cell? ⟨w.heap.size + 1, 0, none⟩ = some (.bool b2) ∧ w'.cell? ⟨w.heap.size + 1, 1, none⟩ = some (.slice Ab_ nb_ cb_) ∧ w'.cell? ⟨w.heap.size + 1 + 1, 0, none⟩ = some (.bool b3) ∧ w'.cell? ⟨w.heap.size + 1 + 1, 1, none⟩ = some (.slice Ac_ nc_ cc_))
    (first | (with_reducible exact ⟨x_a.c0, x_a.c1, x_b.c0, x_b.c1, x_c.c0, x_c.c1⟩) | (with_reducible exact ⟨(x_a.aside (by omega)).c0, (x_a.aside (by omega)).c1, (x_b.aside (by omega)).c0, (x_b.aside (by omega)).c1, (x_c.aside (by omega)).c0, (x_c.aside (by omega)).c1⟩) | (with_reducible exact ⟨((x_a.aside (by omega)).aside (by omega)).c0, ((x_a.aside (by omega)).aside (by omega)).c1, ((x_b.aside (by omega)).aside (by omega)).c0, ((x_b.aside (by omega)).aside (by omega)).c1, ((x_c.aside (by omega)).aside (by omega)).c0, ((x_c.aside (by omega)).aside (by omega)).c1⟩) | go_keep)
    (first | (go_at_call 35; (with_reducible refine (ZMul_any zb.drw zc.drw 20 (by omega) (by omega)).mono ?_); rintro e v19 ⟨A4, n4, c4, rfl, s1, hb1⟩; replace hb1 := undrew hb1; replace x_a := x_a.keep hb1; replace x_b := x_b.keep hb1; replace x_c := x_c.keep hb1; replace za := za.keep hb1; replace zb := zb.keep hb1; replace zc := zc.keep hb1; replace hb := bthen hb hb1; clear hb1; replace q_a0 := x_a.c0; replace q_a1 := x_a.c1; replace f_a0 := x_a.fr 0; replace f_a1 := x_a.fr 1; replace q_b0 := x_b.c0; replace q_b1 := x_b.c1; replace f_b0 := x_b.fr 0; replace f_b1 := x_b.fr 1; replace q_c0 := x_c.c0; replace q_c1 := x_c.c1; replace f_c0 := x_c.fr 0; replace f_c1 := x_c.fr 1) | (go_at_call 35; (with_reducible refine (ZMul_any za s1.zr 30 (by omega) (by omega)).mono ?_); rintro e v20 ⟨A5, n5, c5, rfl, s2, hb1⟩; replace x_a := x_a.keep hb1; replace x_b := x_b.keep hb1; replace x_c := x_c.keep hb1; replace za := za.keep hb1; replace zb := zb.keep hb1; replace zc := zc.keep hb1; replace s1 := s1.keep hb1; replace hb := bthen hb hb1; clear hb1; replace q_a0 := x_a.c0; replace q_a1 := x_a.c1; replace f_a0 := x_a.fr 0; replace f_a1 := x_a.fr 1; replace q_b0 := x_b.c0; replace q_b1 := x_b.c1; replace f_b0 := x_b.fr 0; replace f_b1 := x_b.fr 1; replace q_c0 := x_c.c0; replace q_c1 := x_c.c1; replace f_c0 := x_c.fr 0; replace f_c1 := x_c.fr 1) | (go_at_call 35; (with_reducible refine (ZMul_any za zb 20 (by omega) (by omega)).mono ?_); rintro e v21 ⟨A6, n6, c6, rfl, s3, hb1⟩; replace x_a := x_a.keep hb1; replace x_b := x_b.keep hb1; replace x_c := x_c.keep hb1; replace za := za.keep hb1; replace zb := zb.keep hb1; replace zc := zc.keep hb1; replace s1 := s1.keep hb1; replace s2 := s2.keep hb1; replace hb := bthen hb hb1; clear hb1; replace q_a0 := x_a.c0; replace q_a1 := x_a.c1; replace f_a0 := x_a.fr 0; replace f_a1 := x_a.fr 1; replace q_b0 := x_b.c0; replace q_b1 := x_b.c1; replace f_b0 := x_b.fr 0; replace f_b1 := x_b.fr 1; replace q_c0 := x_c.c0; replace q_c1 := x_c.c1; replace f_c0 := x_c.fr 0; replace f_c1 := x_c.fr 1) | (go_at_call 35; (with_reducible refine (ZMul_any s3.zr zc 30 (by omega) (by omega)).mono ?_); rintro e v22 ⟨A7, n7, c7, rfl, s4, hb1⟩; replace x_a := x_a.keep hb1; replace x_b := x_b.keep hb1; replace x_c := x_c.keep hb1; replace za := za.keep hb1; replace zb := zb.keep hb1; replace zc := zc.keep hb1; replace s1 := s1.keep hb1; replace s2 := s2.keep hb1; replace s3 := s3.keep hb1; replace hb := bthen hb hb1; clear hb1; replace q_a0 := x_a.c0; replace q_a1 := x_a.c1; replace f_a0 := x_a.fr 0; replace f_a1 := x_a.fr 1; replace q_b0 := x_b.c0; replace q_b1 := x_b.c1; replace f_b0 := x_b.fr 0; replace f_b1 := x_b.fr 1; replace q_c0 := x_c.c0; replace q_c1 := x_c.c1; replace f_c0 := x_c.fr 0; replace f_c1 := x_c.fr 1) | (go_at_call 25; (with_reducible refine (ZSame_any s2.zr s4.zr (by omega) (by omega)).mono ?_); rintro e v23 ⟨rfl, hb1⟩; replace x_a := x_a.keep hb1; replace x_b := x_b.keep hb1; replace x_c := x_c.keep hb1; replace za := za.keep hb1; replace zb := zb.keep hb1; replace zc := zc.keep hb1; replace s1 := s1.keep hb1; replace s2 := s2.keep hb1; replace s3 := s3.keep hb1; replace s4 := s4.keep hb1; replace hb := bthen hb hb1; clear hb1; replace q_a0 := x_a.c0; replace q_a1 := x_a.c1; replace f_a0 := x_a.fr 0; replace f_a1 := x_a.fr 1; replace q_b0 := x_b.c0; replace q_b1 := x_b.c1; replace f_b0 := x_b.fr 0; replace f_b1 := x_b.fr 1; replace q_c0 := x_c.c0; replace q_c1 := x_c.c1; replace f_c0 := x_c.fr 0; replace f_c1 := x_c.fr 1; rw [eqB_of (Int.mul_assoc A B C).symm]))
  clear s1 s2 s3 s4
  go_wp2_with fail
  have hs1 := sgnI_is A; have hs2 := sgnI_is B
  have hm1 : IntKind.i64.wrap (sgnI A * sgnI B) = sgnI (A * B) := by rw [← sgn_mul]; exact i64_keep (by have := sgnI_is (A * B); omega) (by have := sgnI_is (A * B); omega)
  have hm2 : IntKind.i64.wrap (-sgnI (B - A)) = sgnI (A - B) := by rw [← sgn_neg, show -(B - A) = A - B by omega]; exact i64_keep (by have := sgnI_is (A - B); omega) (by have := sgnI_is (A - B); omega)
  skip
  go_region_held3 (fun w' => w'.cell? ⟨w.heap.size, 0, none⟩ = some (.bool b) ∧ w'.cell? ⟨w.heap.size, 1, none⟩ = some (.slice Aa_ na_ ca_) ∧ w'.cell? ⟨w.heap.size + 1, 0, none⟩ = some (.bool b2) ∧ w'.cell? ⟨w.heap.size + 1, 1, none⟩ = some (.slice Ab_ nb_ cb_))
    (first | (with_reducible exact ⟨x_a.c0, x_a.c1, x_b.c0, x_b.c1⟩) | (with_reducible exact ⟨(x_a.aside (by omega)).c0, (x_a.aside (by omega)).c1, (x_b.aside (by omega)).c0, (x_b.aside (by omega)).c1⟩) | (with_reducible exact ⟨((x_a.aside (by omega)).aside (by omega)).c0, ((x_a.aside (by omega)).aside (by omega)).c1, ((x_b.aside (by omega)).aside (by omega)).c0, ((x_b.aside (by omega)).aside (by omega)).c1⟩) | go_keep)
    (first | (go_at_call 35; (with_reducible refine (ZMul_any za.drw zb.drw 20 (by omega) (by omega)).mono ?_); rintro e v24 ⟨A4, n4, c4, rfl, s1, hb1⟩; replace hb1 := undrew hb1; replace x_a := x_a.keep hb1; replace x_b := x_b.keep hb1; replace x_c := x_c.keep hb1; replace za := za.keep hb1; replace zb := zb.keep hb1; replace zc := zc.keep hb1; replace hb := bthen hb hb1; clear hb1; replace q_a0 := x_a.c0; replace q_a1 := x_a.c1; replace f_a0 := x_a.fr 0; replace f_a1 := x_a.fr 1; replace q_b0 := x_b.c0; replace q_b1 := x_b.c1; replace f_b0 := x_b.fr 0; replace f_b1 := x_b.fr 1; replace q_c0 := x_c.c0; replace q_c1 := x_c.c1; replace f_c0 := x_c.fr 0; replace f_c1 := x_c.fr 1) | (go_at_call 21; (with_reducible refine (ZSign_any s1.zr (by omega)).mono ?_); rintro e v25 ⟨rfl, hb1⟩; replace x_a := x_a.keep hb1; replace x_b := x_b.keep hb1; replace x_c := x_c.keep hb1; replace za := za.keep hb1; replace zb := zb.keep hb1; replace zc := zc.keep hb1; replace s1 := s1.keep hb1; replace hb := bthen hb hb1; clear hb1; replace q_a0 := x_a.c0; replace q_a1 := x_a.c1; replace f_a0 := x_a.fr 0; replace f_a1 := x_a.fr 1; replace q_b0 := x_b.c0; replace q_b1 := x_b.c1; replace f_b0 := x_b.fr 0; replace f_b1 := x_b.fr 1; replace q_c0 := x_c.c0; replace q_c1 := x_c.c1; replace f_c0 := x_c.fr 0; replace f_c1 := x_c.fr 1) | (go_at_call 21; (with_reducible refine (ZSign_any za (by omega)).mono ?_); rintro e v26 ⟨rfl, hb1⟩; replace x_a := x_a.keep hb1; replace x_b := x_b.keep hb1; replace x_c := x_c.keep hb1; replace za := za.keep hb1; replace zb := zb.keep hb1; replace zc := zc.keep hb1; replace s1 := s1.keep hb1; replace hb := bthen hb hb1; clear hb1; replace q_a0 := x_a.c0; replace q_a1 := x_a.c1; replace f_a0 := x_a.fr 0; replace f_a1 := x_a.fr 1; replace q_b0 := x_b.c0; replace q_b1 := x_b.c1; replace f_b0 := x_b.fr 0; replace f_b1 := x_b.fr 1; replace q_c0 := x_c.c0; replace q_c1 := x_c.c1; replace f_c0 := x_c.fr 0; replace f_c1 := x_c.fr 1) | (go_at_call 21; (with_reducible refine (ZSign_any zb (by omega)).mono ?_); rintro e v27 ⟨rfl, hb1⟩; replace x_a := x_a.keep hb1; replace x_b := x_b.keep hb1; replace x_c := x_c.keep hb1; replace za := za.keep hb1; replace zb := zb.keep hb1; replace zc := zc.keep hb1; replace s1 := s1.keep hb1; replace hb := bthen hb hb1; clear hb1; replace q_a0 := x_a.c0; replace q_a1 := x_a.c1; replace f_a0 := x_a.fr 0; replace f_a1 := x_a.fr 1; replace q_b0 := x_b.c0; replace q_b1 := x_b.c1; replace f_b0 := x_b.fr 0; replace f_b1 := x_b.fr 1; replace q_c0 := x_c.c0; replace q_c1 := x_c.c1; replace f_c0 := x_c.fr 0; replace f_c1 := x_c.fr 1) | (go_at_call 23; (with_reducible refine (ZCmp_any za zb (by omega) (by omega)).mono ?_); rintro e v28 ⟨rfl, hb1⟩; replace x_a := x_a.keep hb1; replace x_b := x_b.keep hb1; replace x_c := x_c.keep hb1; replace za := za.keep hb1; replace zb := zb.keep hb1; replace zc := zc.keep hb1; replace s1 := s1.keep hb1; replace hb := bthen hb hb1; clear hb1; replace q_a0 := x_a.c0; replace q_a1 := x_a.c1; replace f_a0 := x_a.fr 0; replace f_a1 := x_a.fr 1; replace q_b0 := x_b.c0; replace q_b1 := x_b.c1; replace f_b0 := x_b.fr 0; replace f_b1 := x_b.fr 1; replace q_c0 := x_c.c0; replace q_c1 := x_c.c1; replace f_c0 := x_c.fr 0; replace f_c1 := x_c.fr 1) | (go_at_call 23; (with_reducible refine (ZCmp_any zb za (by omega) (by omega)).mono ?_); rintro e v29 ⟨rfl, hb1⟩; replace x_a := x_a.keep hb1; replace x_b := x_b.keep hb1; replace x_c := x_c.keep hb1; replace za := za.keep hb1; replace zb := zb.keep hb1; replace zc := zc.keep hb1; replace s1 := s1.keep hb1; replace hb := bthen hb hb1; clear hb1; replace q_a0 := x_a.c0; replace q_a1 := x_a.c1; replace f_a0 := x_a.fr 0; replace f_a1 := x_a.fr 1; replace q_b0 := x_b.c0; replace q_b1 := x_b.c1; replace f_b0 := x_b.fr 0; replace f_b1 := x_b.fr 1; replace q_c0 := x_c.c0; replace q_c1 := x_c.c1; replace f_c0 := x_c.fr 0; replace f_c1 := x_c.fr 1))
  go_wp2
  go_ret
  exact ⟨rfl, hb⟩

end Go.Proofs.Ythnffjgbglncbaa
