/-
  bits: Of, Near.
-/
import Derived.Test.YthbodamihiddhaaDoorBval
namespace Go.Proofs.YthbodamihiddhaaDoor
open Go.RowKit
set_option linter.unusedVariables false

/-- The bits that are left of a dyad at its last place. -/
theorem of_core {X e t last : Int} (hX : X ≠ 0) (ht : t = e + bl X.natAbs - 1) (hl : t - 52 ≤ last) (hE : last ≤ nE X e) :
    (od X).natAbs * 2 ^ (nE X e - last).toNat < 9007199254740992 ∧ 0 < (od X).natAbs ∧ (od X).natAbs < 9007199254740992 ∧ nE X e - last ≤ 52 := by
  have h0 : 0 < (od X).natAbs := by have := od_ne hX; omega
  have h1 := congrArg Int.natAbs (tz_spec hX).1
  rw [Int.natAbs_mul, pow_cast, Int.natAbs_natCast] at h1
  have h2 := bl_shl h0 (tz X)
  rw [← h1] at h2
  have h3 := nE_ne hX e
  obtain ⟨s, hs⟩ : ∃ s : Nat, nE X e = last + s := ⟨(nE X e - last).toNat, by omega⟩
  rw [hs, show (last + (s : Int) - last).toNat = s by omega]
  have h4 := bl_shl h0 s
  have h5 := bl_pos h0
  have h6 : (od X).natAbs * 2 ^ s < 2 ^ 53 := bl_lt (by omega)
  have h7 : (od X).natAbs ≤ (od X).natAbs * 2 ^ s := Nat.le_mul_of_pos_right _ (Nat.two_pow_pos s)
  exact ⟨h6, h0, by omega, by omega⟩
/-- The one limb of a small integer. -/
theorem Zn.cell0 {w : World} {bb oo n c k : Nat} {Q : Int} (h : Zn w (some ⟨bb, oo, none⟩) n c Q k) (h0 : 0 < Q.natAbs) (h1 : Q.natAbs < 9007199254740992) : w.cell? ⟨bb, oo, none⟩ = some (.int .u64 (Q.natAbs : Int)) := by
  have hd := dg_small1 h0 h1
  have hr := h.1
  rw [hd] at hr
  have hn : 0 < n := by have := hr.len; simp at this; omega
  obtain ⟨b2, o2, he, _, hc⟩ := hr.at_ hn
  injection he with he
  injection he with e1 e2
  subst e1 e2
  exact hc 0 (by simp)
theorem Zn.one {w : World} {A : Option Addr} {n c k : Nat} {Q : Int} (h : Zn w A n c Q k) (h0 : 0 < Q.natAbs) (h1 : Q.natAbs < 9007199254740992) : n = 1 ∧ (∃ bb oo, A = some ⟨bb, oo, none⟩) ∧ 1 ≤ c := by
  have hd := dg_small1 h0 h1
  have hr := h.1
  rw [hd] at hr
  have hn : n = 1 := by have := hr.len; simp at this; omega
  obtain ⟨b2, o2, he, _, hc⟩ := hr.at_ (by omega)
  have := hr.cap
  exact ⟨hn, ⟨b2, o2, he⟩, by omega⟩
theorem field1 (b : Bool) (A : Option Addr) (n c : Nat) (w : World) : (Instr.field 28 (.agg #[.bool b, .slice A n c]) 1).run Tryd.prog w = .ok (.slice A n c) w := by
  kernel_rfl
theorem ngB_od (X : Int) : ngB (od X) = ngB X := by
  have h := sgn_od X
  unfold ngB
  have a := sgnI_lt0 (X := od X)
  have b := sgnI_lt0 (X := X)
  rw [h] at a
  exact decide_eq_decide.2 (a.symm.trans b)

set_option maxRecDepth 100000 in
set_option maxHeartbeats 1000000 in
theorem Of_zero {b : Bool} {A : Option Addr} {n c : Nat} {X e : Int} {j : Nat} {w : World} (h : Zr w b A n c X j) (hj : j ≤ 1000) (hX : cM X e = 0) :
    Calls Tryd.prog 18 #[.agg #[.bool b, .slice A n c, .int .i64 e]] w fun en w' => en = .returned (.tuple #[.int .u64 0, .int .i64 0]) ∧ Below w.heap.size w w' := by
  have hg : lgI (cM X e) (cE e) = 0 ∧ lgB (cM X e) = false := ⟨by unfold lgI; rw [if_pos hX], by unfold lgB; simp [hX]⟩
  have HG := Lib.hid hg; clear hg hX
  go_enter Tryd.func18, Tryd.ntmps18
  go_wp2_with fail
  have x_a : Dx (w.alloc (.cells #[.bool b, .slice A n c, .int .i64 e] 30)) (w.heap.size) b A n c e := by have := Dx.new w b A n c e; simpa using this
  have hb : Below w.heap.size w (w.alloc (.cells #[.bool b, .slice A n c, .int .i64 e] 30)) := (Below.alloc (Below.refl w.heap.size w) (by simp) (.cells #[.bool b, .slice A n c, .int .i64 e] 30))
  generalize w.alloc (.cells #[.bool b, .slice A n c, .int .i64 e] 30) = v1 at *
  replace h := h.keep hb
  have q_a0 := x_a.c0; have q_a1 := x_a.c1; have f_a0 := x_a.fr 0; have f_a1 := x_a.fr 1; have q_a2 := x_a.c2; have f_a2 := x_a.fr 2
  go_wp2_with fail
  with_reducible refine (DLog_any h (by omega)).mono ?_
  rintro e v2 ⟨rfl, hb1⟩
  replace x_a := x_a.keep hb1
  replace h := h.keep hb1
  replace hb := bthen hb hb1
  clear hb1
  replace q_a0 := x_a.c0; replace q_a1 := x_a.c1; replace f_a0 := x_a.fr 0; replace f_a1 := x_a.fr 1; replace q_a2 := x_a.c2; replace f_a2 := x_a.fr 2
  rw [HG.out.1, HG.out.2]
  go_wp2
  go_ret2
  exact ⟨rfl, hb⟩

set_option maxRecDepth 100000 in
set_option maxHeartbeats 4000000 in
theorem Of_at {b : Bool} {A : Option Addr} {n c : Nat} {X e : Int} {j : Nat} {w : World} (h : Zr w b A n c X j) (hT : Tab w) (hj : j ≤ 1000) (he : In e) (hX : X ≠ 0) (t last : Int) (ht : t = e + bl X.natAbs - 1) (h1 : t ≤ 1023) (hl : last = max (t - 52) (-1074)) (hE : last ≤ nE X e) (N : Nat) (hN : (od X).natAbs * 2 ^ (nE X e - last).toNat = N) :
    Calls Tryd.prog 18 #[.agg #[.bool b, .slice A n c, .int .i64 e]] w fun en w' => en = .returned (.tuple #[.int .u64 (((if ngB X then 9223372036854775808 else 0) + ((last + 1074).toNat * 4503599627370496 + N) : Nat) : Int), .int .i64 0]) ∧ Below w.heap.size w w' := by
  obtain ⟨k1, k2, k3, k4⟩ := of_core hX ht (by omega) hE
  rw [hN] at k1
  have hne := nE_ne hX e
  obtain ⟨cm, ce⟩ := c_yes (X := X) he
  have hg : lgI (cM X e) (cE e) = t ∧ lgB (cM X e) = true := ⟨by rw [cm, ce, lg_of hX, ht], by rw [cm]; unfold lgB; simp [hX]⟩
  have HG := Lib.hid hg; clear hg
  have HC := Lib.hid (And.intro cm ce); clear cm ce
  have hng := ngB_od X
  have hon := od_ne hX
  have hbp := bl_pos (N := X.natAbs) (by omega)
  unfold In at he
  obtain ⟨E, hEE⟩ : ∃ E, nE X e = E := ⟨_, rfl⟩
  obtain ⟨Q, hQ⟩ : ∃ Q, od X = Q := ⟨_, rfl⟩
  obtain ⟨s, hs⟩ : ∃ s : Nat, E = last + s := ⟨(E - last).toNat, by omega⟩
  rw [hEE] at hN k4 hE
  rw [hQ] at hN k2 k3 hng hon
  rw [hs, show (last + (s : Int) - last).toNat = s by omega] at hN
  have HN := Lib.hid hN; have HEQ := Lib.hid (And.intro hEE hQ); clear hN hEE hQ hne
  have w1 : IntKind.i64.wrap (t - 52) = t - 52 := wrap_in (by omega) (by omega)
  have t1 : ¬ 1023 < t := by omega
  have t2 : ¬ E < last := by omega
  have hs52 : s ≤ 52 := by omega
  have w3 : IntKind.u64.wrap ((Q.natAbs : Int) * 2 ^ s) = (N : Int) := by rw [pow_cast, ← Int.natCast_mul, HN.out, wrap_u64]; omega
  have HB := Lib.hid hbp; have HX := Lib.hid hX; have HT1 := Lib.hid ht; clear hX ht hbp
  obtain ⟨sg, hsg⟩ : ∃ sg, ngB X = sg := ⟨_, rfl⟩
  rw [hsg] at hng ⊢
  have HNG := Lib.hid hng; clear hng hsg
  rcases Int.lt_or_le (t - 52) (-1074) with hm | hm
  · have hlast : last = -1074 := by omega
    have w2 : IntKind.i64.wrap (E - last) = s := by rw [wrap_in (by omega) (by omega)]; omega
    have HS := Lib.hid hs; clear hl hs
    subst hlast
    have w2b : IntKind.i64.wrap (E + 1074) = s := by rw [← w2]; rfl
    obtain ⟨J, hJ⟩ : ∃ J : Nat, (-1074 + 1074).toNat * 4503599627370496 + N = J := ⟨_, rfl⟩
    have hJb : J < 9223372036854775808 := by omega
    have ho := or_sign J hJb
    have HJ := Lib.hid hJ; clear hJ
    cases sg
    · skip
      go_enter Tryd.func18, Tryd.ntmps18
      go_wp2_with fail
      have x_a : Dx (w.alloc (.cells #[.bool b, .slice A n c, .int .i64 e] 30)) (w.heap.size) b A n c e := by have := Dx.new w b A n c e; simpa using this
      have hb : Below w.heap.size w (w.alloc (.cells #[.bool b, .slice A n c, .int .i64 e] 30)) := (Below.alloc (Below.refl w.heap.size w) (by simp) (.cells #[.bool b, .slice A n c, .int .i64 e] 30))
      generalize w.alloc (.cells #[.bool b, .slice A n c, .int .i64 e] 30) = v1 at *
      replace h := h.keep hb
      replace hT := hT.keep hb
      have q_a0 := x_a.c0; have q_a1 := x_a.c1; have f_a0 := x_a.fr 0; have f_a1 := x_a.fr 1; have q_a2 := x_a.c2; have f_a2 := x_a.fr 2
      go_wp2_with fail
      with_reducible refine (DLog_any h (by omega)).mono ?_
      rintro e v2 ⟨rfl, hb1⟩
      replace x_a := x_a.keep hb1
      replace h := h.keep hb1
      replace hT := hT.keep hb1
      replace hb := bthen hb hb1
      clear hb1
      replace q_a0 := x_a.c0; replace q_a1 := x_a.c1; replace f_a0 := x_a.fr 0; replace f_a1 := x_a.fr 1; replace q_a2 := x_a.c2; replace f_a2 := x_a.fr 2
      rw [HG.out.1, HG.out.2]
      go_wp2_with fail
      with_reducible refine (DNorm_any h hT (j + 1) (by omega) (by omega)).mono ?_
      rintro e v3 ⟨A2, n2, c2, rfl, z2, hb1⟩
      replace x_a := x_a.keep hb1
      replace h := h.keep hb1
      replace hT := hT.keep hb1
      replace hb := bthen hb hb1
      clear hb1
      replace q_a0 := x_a.c0; replace q_a1 := x_a.c1; replace f_a0 := x_a.fr 0; replace f_a1 := x_a.fr 1; replace q_a2 := x_a.c2; replace f_a2 := x_a.fr 2
      rw [HC.out.1, HEQ.out.2] at z2
      rw [HC.out.1, HC.out.2, HEQ.out.1, HEQ.out.2, HNG.out]
      clear h
      go_wp2_with fail
      replace hT := hT.putD (b' := false) (A' := A2) (n' := n2) (c' := c2) (e' := E) x_a
      replace z2 := z2.putD (b' := false) (A' := A2) (n' := n2) (c' := c2) (e' := E) x_a
      replace hb := put_belowD (g := w.heap.size) hb (by omega) (.bool false) (.slice A2 n2 c2) (.int .i64 E)
      replace x_a := x_a.put false A2 n2 c2 E
      clear q_a0 q_a1 f_a0 f_a1 q_a2 f_a2
      generalize ((v3.setCell ⟨w.heap.size, 0, none⟩ (.bool false)).setCell ⟨w.heap.size, 1, none⟩ (.slice A2 n2 c2)).setCell ⟨w.heap.size, 2, none⟩ (.int .i64 E) = v4 at *
      have q_a0 := x_a.c0; have q_a1 := x_a.c1; have f_a0 := x_a.fr 0; have f_a1 := x_a.fr 1; have q_a2 := x_a.c2; have f_a2 := x_a.fr 2
      obtain ⟨rfl, ⟨bb, oo, rfl⟩, hc2⟩ := z2.one k2 k3
      have hq0 := z2.cell0 k2 k3
      go_region_held3 (fun w' => w'.cell? ⟨w.heap.size, 0, none⟩ = some (.bool false) ∧ w'.cell? ⟨w.heap.size, 1, none⟩ = some (.slice (some ⟨bb, oo, none⟩) 1 c2) ∧ w'.cell? ⟨w.heap.size, 2, none⟩ = some (.int .i64 E) ∧ w'.cell? ⟨bb, oo, none⟩ = some (.int .u64 (Q.natAbs : Int)))
        (first | (with_reducible exact ⟨x_a.c0, x_a.c1, x_a.c2, z2.cell0 k2 k3⟩) | (with_reducible exact ⟨(x_a.aside (by omega)).c0, (x_a.aside (by omega)).c1, (x_a.aside (by omega)).c2, z2.cell0 k2 k3⟩) | (with_reducible exact ⟨((x_a.aside (by omega)).aside (by omega)).c0, ((x_a.aside (by omega)).aside (by omega)).c1, ((x_a.aside (by omega)).aside (by omega)).c2, z2.cell0 k2 k3⟩) | (with_reducible exact ⟨(x_a.asideD (by omega)).c0, (x_a.asideD (by omega)).c1, (x_a.asideD (by omega)).c2, z2.cell0 k2 k3⟩) | (with_reducible exact ⟨((x_a.asideD (by omega)).asideD (by omega)).c0, ((x_a.asideD (by omega)).asideD (by omega)).c1, ((x_a.asideD (by omega)).asideD (by omega)).c2, z2.cell0 k2 k3⟩) | go_keep)
        (first | (go_at_call 31; (with_reducible refine (join_at (N : Int) (-1074) N J rfl k1 (by omega) HJ.out).mono ?_); rintro e v5 ⟨rfl, hb1⟩; replace hb1 := undrew hb1; replace x_a := x_a.keep hb1; replace hT := hT.keep hb1; replace z2 := z2.keep hb1; replace hb := bthen hb hb1; clear hb1; replace q_a0 := x_a.c0; replace q_a1 := x_a.c1; replace f_a0 := x_a.fr 0; replace f_a1 := x_a.fr 1; replace q_a2 := x_a.c2; replace f_a2 := x_a.fr 2; replace hq0 := z2.cell0 k2 k3))
      go_wp2
      go_ret2
      exact ⟨tup_ui (by have := HJ.out; omega) rfl, hb⟩
    · skip
      go_enter Tryd.func18, Tryd.ntmps18
      go_wp2_with fail
      have x_a : Dx (w.alloc (.cells #[.bool b, .slice A n c, .int .i64 e] 30)) (w.heap.size) b A n c e := by have := Dx.new w b A n c e; simpa using this
      have hb : Below w.heap.size w (w.alloc (.cells #[.bool b, .slice A n c, .int .i64 e] 30)) := (Below.alloc (Below.refl w.heap.size w) (by simp) (.cells #[.bool b, .slice A n c, .int .i64 e] 30))
      generalize w.alloc (.cells #[.bool b, .slice A n c, .int .i64 e] 30) = v1 at *
      replace h := h.keep hb
      replace hT := hT.keep hb
      have q_a0 := x_a.c0; have q_a1 := x_a.c1; have f_a0 := x_a.fr 0; have f_a1 := x_a.fr 1; have q_a2 := x_a.c2; have f_a2 := x_a.fr 2
      go_wp2_with fail
      with_reducible refine (DLog_any h (by omega)).mono ?_
      rintro e v2 ⟨rfl, hb1⟩
      replace x_a := x_a.keep hb1
      replace h := h.keep hb1
      replace hT := hT.keep hb1
      replace hb := bthen hb hb1
      clear hb1
      replace q_a0 := x_a.c0; replace q_a1 := x_a.c1; replace f_a0 := x_a.fr 0; replace f_a1 := x_a.fr 1; replace q_a2 := x_a.c2; replace f_a2 := x_a.fr 2
      rw [HG.out.1, HG.out.2]
      go_wp2_with fail
      with_reducible refine (DNorm_any h hT (j + 1) (by omega) (by omega)).mono ?_
      rintro e v3 ⟨A2, n2, c2, rfl, z2, hb1⟩
      replace x_a := x_a.keep hb1
      replace h := h.keep hb1
      replace hT := hT.keep hb1
      replace hb := bthen hb hb1
      clear hb1
      replace q_a0 := x_a.c0; replace q_a1 := x_a.c1; replace f_a0 := x_a.fr 0; replace f_a1 := x_a.fr 1; replace q_a2 := x_a.c2; replace f_a2 := x_a.fr 2
      rw [HC.out.1, HEQ.out.2] at z2
      rw [HC.out.1, HC.out.2, HEQ.out.1, HEQ.out.2, HNG.out]
      clear h
      go_wp2_with fail
      replace hT := hT.putD (b' := true) (A' := A2) (n' := n2) (c' := c2) (e' := E) x_a
      replace z2 := z2.putD (b' := true) (A' := A2) (n' := n2) (c' := c2) (e' := E) x_a
      replace hb := put_belowD (g := w.heap.size) hb (by omega) (.bool true) (.slice A2 n2 c2) (.int .i64 E)
      replace x_a := x_a.put true A2 n2 c2 E
      clear q_a0 q_a1 f_a0 f_a1 q_a2 f_a2
      generalize ((v3.setCell ⟨w.heap.size, 0, none⟩ (.bool true)).setCell ⟨w.heap.size, 1, none⟩ (.slice A2 n2 c2)).setCell ⟨w.heap.size, 2, none⟩ (.int .i64 E) = v4 at *
      have q_a0 := x_a.c0; have q_a1 := x_a.c1; have f_a0 := x_a.fr 0; have f_a1 := x_a.fr 1; have q_a2 := x_a.c2; have f_a2 := x_a.fr 2
      obtain ⟨rfl, ⟨bb, oo, rfl⟩, hc2⟩ := z2.one k2 k3
      have hq0 := z2.cell0 k2 k3
      go_region_held3 (fun w' => w'.cell? ⟨w.heap.size, 0, none⟩ = some (.bool true) ∧ w'.cell? ⟨w.heap.size, 1, none⟩ = some (.slice (some ⟨bb, oo, none⟩) 1 c2) ∧ w'.cell? ⟨w.heap.size, 2, none⟩ = some (.int .i64 E) ∧ w'.cell? ⟨bb, oo, none⟩ = some (.int .u64 (Q.natAbs : Int)))
        (first | (with_reducible exact ⟨x_a.c0, x_a.c1, x_a.c2, z2.cell0 k2 k3⟩) | (with_reducible exact ⟨(x_a.aside (by omega)).c0, (x_a.aside (by omega)).c1, (x_a.aside (by omega)).c2, z2.cell0 k2 k3⟩) | (with_reducible exact ⟨((x_a.aside (by omega)).aside (by omega)).c0, ((x_a.aside (by omega)).aside (by omega)).c1, ((x_a.aside (by omega)).aside (by omega)).c2, z2.cell0 k2 k3⟩) | (with_reducible exact ⟨(x_a.asideD (by omega)).c0, (x_a.asideD (by omega)).c1, (x_a.asideD (by omega)).c2, z2.cell0 k2 k3⟩) | (with_reducible exact ⟨((x_a.asideD (by omega)).asideD (by omega)).c0, ((x_a.asideD (by omega)).asideD (by omega)).c1, ((x_a.asideD (by omega)).asideD (by omega)).c2, z2.cell0 k2 k3⟩) | go_keep)
        (first | (go_at_call 31; (with_reducible refine (join_at (N : Int) (-1074) N J rfl k1 (by omega) HJ.out).mono ?_); rintro e v5 ⟨rfl, hb1⟩; replace hb1 := undrew hb1; replace x_a := x_a.keep hb1; replace hT := hT.keep hb1; replace z2 := z2.keep hb1; replace hb := bthen hb hb1; clear hb1; replace q_a0 := x_a.c0; replace q_a1 := x_a.c1; replace f_a0 := x_a.fr 0; replace f_a1 := x_a.fr 1; replace q_a2 := x_a.c2; replace f_a2 := x_a.fr 2; replace hq0 := z2.cell0 k2 k3))
      go_wp2
      go_ret2
      exact ⟨tup_ui (by have := HJ.out; omega) rfl, hb⟩
  · have hlast : last = t - 52 := by omega
    have w2 : IntKind.i64.wrap (E - last) = s := by rw [wrap_in (by omega) (by omega)]; omega
    have HS := Lib.hid hs; clear hl hs
    subst hlast
    obtain ⟨J, hJ⟩ : ∃ J : Nat, (t - 52 + 1074).toNat * 4503599627370496 + N = J := ⟨_, rfl⟩
    have hJb : J < 9223372036854775808 := by omega
    have ho := or_sign J hJb
    have HJ := Lib.hid hJ; clear hJ
    cases sg
    · skip
      go_enter Tryd.func18, Tryd.ntmps18
      go_wp2_with fail
      have x_a : Dx (w.alloc (.cells #[.bool b, .slice A n c, .int .i64 e] 30)) (w.heap.size) b A n c e := by have := Dx.new w b A n c e; simpa using this
      have hb : Below w.heap.size w (w.alloc (.cells #[.bool b, .slice A n c, .int .i64 e] 30)) := (Below.alloc (Below.refl w.heap.size w) (by simp) (.cells #[.bool b, .slice A n c, .int .i64 e] 30))
      generalize w.alloc (.cells #[.bool b, .slice A n c, .int .i64 e] 30) = v1 at *
      replace h := h.keep hb
      replace hT := hT.keep hb
      have q_a0 := x_a.c0; have q_a1 := x_a.c1; have f_a0 := x_a.fr 0; have f_a1 := x_a.fr 1; have q_a2 := x_a.c2; have f_a2 := x_a.fr 2
      go_wp2_with fail
      with_reducible refine (DLog_any h (by omega)).mono ?_
      rintro e v2 ⟨rfl, hb1⟩
      replace x_a := x_a.keep hb1
      replace h := h.keep hb1
      replace hT := hT.keep hb1
      replace hb := bthen hb hb1
      clear hb1
      replace q_a0 := x_a.c0; replace q_a1 := x_a.c1; replace f_a0 := x_a.fr 0; replace f_a1 := x_a.fr 1; replace q_a2 := x_a.c2; replace f_a2 := x_a.fr 2
      rw [HG.out.1, HG.out.2]
      go_wp2_with fail
      with_reducible refine (DNorm_any h hT (j + 1) (by omega) (by omega)).mono ?_
      rintro e v3 ⟨A2, n2, c2, rfl, z2, hb1⟩
      replace x_a := x_a.keep hb1
      replace h := h.keep hb1
      replace hT := hT.keep hb1
      replace hb := bthen hb hb1
      clear hb1
      replace q_a0 := x_a.c0; replace q_a1 := x_a.c1; replace f_a0 := x_a.fr 0; replace f_a1 := x_a.fr 1; replace q_a2 := x_a.c2; replace f_a2 := x_a.fr 2
      rw [HC.out.1, HEQ.out.2] at z2
      rw [HC.out.1, HC.out.2, HEQ.out.1, HEQ.out.2, HNG.out]
      clear h
      go_wp2_with fail
      replace hT := hT.putD (b' := false) (A' := A2) (n' := n2) (c' := c2) (e' := E) x_a
      replace z2 := z2.putD (b' := false) (A' := A2) (n' := n2) (c' := c2) (e' := E) x_a
      replace hb := put_belowD (g := w.heap.size) hb (by omega) (.bool false) (.slice A2 n2 c2) (.int .i64 E)
      replace x_a := x_a.put false A2 n2 c2 E
      clear q_a0 q_a1 f_a0 f_a1 q_a2 f_a2
      generalize ((v3.setCell ⟨w.heap.size, 0, none⟩ (.bool false)).setCell ⟨w.heap.size, 1, none⟩ (.slice A2 n2 c2)).setCell ⟨w.heap.size, 2, none⟩ (.int .i64 E) = v4 at *
      have q_a0 := x_a.c0; have q_a1 := x_a.c1; have f_a0 := x_a.fr 0; have f_a1 := x_a.fr 1; have q_a2 := x_a.c2; have f_a2 := x_a.fr 2
      obtain ⟨rfl, ⟨bb, oo, rfl⟩, hc2⟩ := z2.one k2 k3
      have hq0 := z2.cell0 k2 k3
      go_region_held3 (fun w' => w'.cell? ⟨w.heap.size, 0, none⟩ = some (.bool false) ∧ w'.cell? ⟨w.heap.size, 1, none⟩ = some (.slice (some ⟨bb, oo, none⟩) 1 c2) ∧ w'.cell? ⟨w.heap.size, 2, none⟩ = some (.int .i64 E) ∧ w'.cell? ⟨bb, oo, none⟩ = some (.int .u64 (Q.natAbs : Int)))
        (first | (with_reducible exact ⟨x_a.c0, x_a.c1, x_a.c2, z2.cell0 k2 k3⟩) | (with_reducible exact ⟨(x_a.aside (by omega)).c0, (x_a.aside (by omega)).c1, (x_a.aside (by omega)).c2, z2.cell0 k2 k3⟩) | (with_reducible exact ⟨((x_a.aside (by omega)).aside (by omega)).c0, ((x_a.aside (by omega)).aside (by omega)).c1, ((x_a.aside (by omega)).aside (by omega)).c2, z2.cell0 k2 k3⟩) | (with_reducible exact ⟨(x_a.asideD (by omega)).c0, (x_a.asideD (by omega)).c1, (x_a.asideD (by omega)).c2, z2.cell0 k2 k3⟩) | (with_reducible exact ⟨((x_a.asideD (by omega)).asideD (by omega)).c0, ((x_a.asideD (by omega)).asideD (by omega)).c1, ((x_a.asideD (by omega)).asideD (by omega)).c2, z2.cell0 k2 k3⟩) | go_keep)
        (first | (go_at_call 31; (with_reducible refine (join_at (N : Int) (t - 52) N J rfl k1 (by omega) HJ.out).mono ?_); rintro e v5 ⟨rfl, hb1⟩; replace hb1 := undrew hb1; replace x_a := x_a.keep hb1; replace hT := hT.keep hb1; replace z2 := z2.keep hb1; replace hb := bthen hb hb1; clear hb1; replace q_a0 := x_a.c0; replace q_a1 := x_a.c1; replace f_a0 := x_a.fr 0; replace f_a1 := x_a.fr 1; replace q_a2 := x_a.c2; replace f_a2 := x_a.fr 2; replace hq0 := z2.cell0 k2 k3))
      go_wp2
      go_ret2
      exact ⟨tup_ui (by have := HJ.out; omega) rfl, hb⟩
    · skip
      go_enter Tryd.func18, Tryd.ntmps18
      go_wp2_with fail
      have x_a : Dx (w.alloc (.cells #[.bool b, .slice A n c, .int .i64 e] 30)) (w.heap.size) b A n c e := by have := Dx.new w b A n c e; simpa using this
      have hb : Below w.heap.size w (w.alloc (.cells #[.bool b, .slice A n c, .int .i64 e] 30)) := (Below.alloc (Below.refl w.heap.size w) (by simp) (.cells #[.bool b, .slice A n c, .int .i64 e] 30))
      generalize w.alloc (.cells #[.bool b, .slice A n c, .int .i64 e] 30) = v1 at *
      replace h := h.keep hb
      replace hT := hT.keep hb
      have q_a0 := x_a.c0; have q_a1 := x_a.c1; have f_a0 := x_a.fr 0; have f_a1 := x_a.fr 1; have q_a2 := x_a.c2; have f_a2 := x_a.fr 2
      go_wp2_with fail
      with_reducible refine (DLog_any h (by omega)).mono ?_
      rintro e v2 ⟨rfl, hb1⟩
      replace x_a := x_a.keep hb1
      replace h := h.keep hb1
      replace hT := hT.keep hb1
      replace hb := bthen hb hb1
      clear hb1
      replace q_a0 := x_a.c0; replace q_a1 := x_a.c1; replace f_a0 := x_a.fr 0; replace f_a1 := x_a.fr 1; replace q_a2 := x_a.c2; replace f_a2 := x_a.fr 2
      rw [HG.out.1, HG.out.2]
      go_wp2_with fail
      with_reducible refine (DNorm_any h hT (j + 1) (by omega) (by omega)).mono ?_
      rintro e v3 ⟨A2, n2, c2, rfl, z2, hb1⟩
      replace x_a := x_a.keep hb1
      replace h := h.keep hb1
      replace hT := hT.keep hb1
      replace hb := bthen hb hb1
      clear hb1
      replace q_a0 := x_a.c0; replace q_a1 := x_a.c1; replace f_a0 := x_a.fr 0; replace f_a1 := x_a.fr 1; replace q_a2 := x_a.c2; replace f_a2 := x_a.fr 2
      rw [HC.out.1, HEQ.out.2] at z2
      rw [HC.out.1, HC.out.2, HEQ.out.1, HEQ.out.2, HNG.out]
      clear h
      go_wp2_with fail
      replace hT := hT.putD (b' := true) (A' := A2) (n' := n2) (c' := c2) (e' := E) x_a
      replace z2 := z2.putD (b' := true) (A' := A2) (n' := n2) (c' := c2) (e' := E) x_a
      replace hb := put_belowD (g := w.heap.size) hb (by omega) (.bool true) (.slice A2 n2 c2) (.int .i64 E)
      replace x_a := x_a.put true A2 n2 c2 E
      clear q_a0 q_a1 f_a0 f_a1 q_a2 f_a2
      generalize ((v3.setCell ⟨w.heap.size, 0, none⟩ (.bool true)).setCell ⟨w.heap.size, 1, none⟩ (.slice A2 n2 c2)).setCell ⟨w.heap.size, 2, none⟩ (.int .i64 E) = v4 at *
      have q_a0 := x_a.c0; have q_a1 := x_a.c1; have f_a0 := x_a.fr 0; have f_a1 := x_a.fr 1; have q_a2 := x_a.c2; have f_a2 := x_a.fr 2
      obtain ⟨rfl, ⟨bb, oo, rfl⟩, hc2⟩ := z2.one k2 k3
      have hq0 := z2.cell0 k2 k3
      go_region_held3 (fun w' => w'.cell? ⟨w.heap.size, 0, none⟩ = some (.bool true) ∧ w'.cell? ⟨w.heap.size, 1, none⟩ = some (.slice (some ⟨bb, oo, none⟩) 1 c2) ∧ w'.cell? ⟨w.heap.size, 2, none⟩ = some (.int .i64 E) ∧ w'.cell? ⟨bb, oo, none⟩ = some (.int .u64 (Q.natAbs : Int)))
        (first | (with_reducible exact ⟨x_a.c0, x_a.c1, x_a.c2, z2.cell0 k2 k3⟩) | (with_reducible exact ⟨(x_a.aside (by omega)).c0, (x_a.aside (by omega)).c1, (x_a.aside (by omega)).c2, z2.cell0 k2 k3⟩) | (with_reducible exact ⟨((x_a.aside (by omega)).aside (by omega)).c0, ((x_a.aside (by omega)).aside (by omega)).c1, ((x_a.aside (by omega)).aside (by omega)).c2, z2.cell0 k2 k3⟩) | (with_reducible exact ⟨(x_a.asideD (by omega)).c0, (x_a.asideD (by omega)).c1, (x_a.asideD (by omega)).c2, z2.cell0 k2 k3⟩) | (with_reducible exact ⟨((x_a.asideD (by omega)).asideD (by omega)).c0, ((x_a.asideD (by omega)).asideD (by omega)).c1, ((x_a.asideD (by omega)).asideD (by omega)).c2, z2.cell0 k2 k3⟩) | go_keep)
        (first | (go_at_call 31; (with_reducible refine (join_at (N : Int) (t - 52) N J rfl k1 (by omega) HJ.out).mono ?_); rintro e v5 ⟨rfl, hb1⟩; replace hb1 := undrew hb1; replace x_a := x_a.keep hb1; replace hT := hT.keep hb1; replace z2 := z2.keep hb1; replace hb := bthen hb hb1; clear hb1; replace q_a0 := x_a.c0; replace q_a1 := x_a.c1; replace f_a0 := x_a.fr 0; replace f_a1 := x_a.fr 1; replace q_a2 := x_a.c2; replace f_a2 := x_a.fr 2; replace hq0 := z2.cell0 k2 k3))
      go_wp2
      go_ret2
      exact ⟨tup_ui (by have := HJ.out; omega) rfl, hb⟩

set_option maxRecDepth 100000 in
set_option maxHeartbeats 4000000 in
theorem Near_in {b : Bool} {A : Option Addr} {n c : Nat} {X e : Int} {j : Nat} {w : World} (h : Zr w b A n c X j) (hj : j ≤ 1000) (he : In e) (hX : 0 < X) (t : Int) (ht : t = e + bl X.natAbs - 1) (hr : -1022 ≤ t ∧ t ≤ 1023) (M J : Nat) (hM : flI X (e - (t - 52)) = M) (hJ : (t - 52 + 1074).toNat * 4503599627370496 + M = J) :
    Calls Tryd.prog 24 #[.agg #[.bool b, .slice A n c, .int .i64 e]] w fun en w' => en = .returned (.tuple #[.int .u64 (J : Int), .int .i64 0]) ∧ Below w.heap.size w w' := by
  obtain ⟨k1, k2, _, _⟩ := fl_near hX he (t := t - 52) (by omega) (by omega)
  rw [hM] at k1 k2
  obtain ⟨cm, ce⟩ := c_yes (X := X) he
  have hg : lgI (cM X e) (cE e) = t := by rw [cm, ce, lg_of (by omega), ht]
  have hs : sgnI (cM X e) = 1 := by rw [cm]; unfold sgnI; rw [if_neg (by omega), if_neg (by omega)]
  obtain ⟨gB, hgB⟩ : ∃ g, lgB (cM X e) = g := ⟨_, rfl⟩
  obtain ⟨q, hq⟩ : ∃ q, q = -(t - 52) := ⟨_, rfl⟩
  have hf : flI (cM X e) (cE e + li q) = M := by rw [cm, ce, ← hM]; congr 1; unfold li; omega
  have HG := Lib.hid hg; have HGB := Lib.hid hgB; have HS := Lib.hid hs; have HF := Lib.hid hf; have HJ := Lib.hid hJ
  have w1 : IntKind.i64.wrap (t - 52) = t - 52 := wrap_in (by omega) (by omega)
  have w2 : IntKind.i64.wrap (-(t - 52)) = q := by rw [wrap_in (by omega) (by omega), hq]
  have t1 : ¬ t < -1022 := by omega
  have t2 : ¬ 1023 < t := by omega
  have hK : 0 < (M : Int).natAbs ∧ (M : Int).natAbs < 9007199254740992 ∧ M < 9007199254740992 := by omega
  have K := Lib.hid hK; clear hK k1 k2
  have HX := Lib.hid hX; have HT1 := Lib.hid ht; have HQ := Lib.hid hq
  clear hg hgB hs hf hJ hM cm ce ht hX hq he
  go_enter Tryd.func24, Tryd.ntmps24
  go_wp2_with fail
  have x_a : Dx (w.alloc (.cells #[.bool b, .slice A n c, .int .i64 e] 30)) (w.heap.size) b A n c e := by have := Dx.new w b A n c e; simpa using this
  have hb : Below w.heap.size w (w.alloc (.cells #[.bool b, .slice A n c, .int .i64 e] 30)) := (Below.alloc (Below.refl w.heap.size w) (by simp) (.cells #[.bool b, .slice A n c, .int .i64 e] 30))
  generalize w.alloc (.cells #[.bool b, .slice A n c, .int .i64 e] 30) = v1 at *
  replace h := h.keep hb
  have q_a0 := x_a.c0; have q_a1 := x_a.c1; have f_a0 := x_a.fr 0; have f_a1 := x_a.fr 1; have q_a2 := x_a.c2; have f_a2 := x_a.fr 2
  go_wp2_with fail
  with_reducible refine (DLog_any h (by omega)).mono ?_
  rintro e v2 ⟨rfl, hb1⟩
  replace x_a := x_a.keep hb1
  replace h := h.keep hb1
  replace hb := bthen hb hb1
  clear hb1
  replace q_a0 := x_a.c0; replace q_a1 := x_a.c1; replace f_a0 := x_a.fr 0; replace f_a1 := x_a.fr 1; replace q_a2 := x_a.c2; replace f_a2 := x_a.fr 2
  rw [HG.out, HGB.out]
  go_wp2_with fail
  with_reducible refine (DSign_any h (by omega)).mono ?_
  rintro e v3 ⟨rfl, hb1⟩
  replace x_a := x_a.keep hb1
  replace h := h.keep hb1
  replace hb := bthen hb hb1
  clear hb1
  replace q_a0 := x_a.c0; replace q_a1 := x_a.c1; replace f_a0 := x_a.fr 0; replace f_a1 := x_a.fr 1; replace q_a2 := x_a.c2; replace f_a2 := x_a.fr 2
  rw [HS.out]
  go_wp2_with fail
  with_reducible refine (DFloor_any h q (j + 128) (by omega) (by omega)).mono ?_
  rintro e v4 ⟨A2, n2, c2, rfl, z2, hb1⟩
  replace x_a := x_a.keep hb1
  replace h := h.keep hb1
  replace hb := bthen hb hb1
  clear hb1
  replace q_a0 := x_a.c0; replace q_a1 := x_a.c1; replace f_a0 := x_a.fr 0; replace f_a1 := x_a.fr 1; replace q_a2 := x_a.c2; replace f_a2 := x_a.fr 2
  rw [HF.out] at z2
  rw [HF.out]
  obtain ⟨rfl, ⟨bb, oo, rfl⟩, hc2⟩ := z2.one K.out.1 K.out.2.1
  have hq0 := z2.cell0 K.out.1 K.out.2.1
  rw [show ((M : Int).natAbs : Int) = M from rfl] at hq0
  have hfl := field1 (ngB (M : Int)) (some ⟨bb, oo, none⟩) 1 c2 v4
  go_wp2_with fail
  with_reducible refine (join_at (M : Int) (t - 52) M J rfl K.out.2.2 (by omega) HJ.out).mono ?_
  rintro e v5 ⟨rfl, hb1⟩
  replace x_a := x_a.keep hb1
  replace h := h.keep hb1
  replace z2 := z2.keep hb1
  replace hb := bthen hb hb1
  clear hb1
  replace q_a0 := x_a.c0; replace q_a1 := x_a.c1; replace f_a0 := x_a.fr 0; replace f_a1 := x_a.fr 1; replace q_a2 := x_a.c2; replace f_a2 := x_a.fr 2
  go_wp2
  go_ret2
  exact ⟨rfl, hb⟩

set_option maxRecDepth 100000 in
set_option maxHeartbeats 4000000 in
theorem Near_out {b : Bool} {A : Option Addr} {n c : Nat} {X e : Int} {j : Nat} {w : World} (h : Zr w b A n c X j) (hj : j ≤ 1000) (he : In e) (hX : X ≤ 0 ∨ e + bl X.natAbs - 1 < -1022 ∨ 1023 < e + bl X.natAbs - 1) :
    Calls Tryd.prog 24 #[.agg #[.bool b, .slice A n c, .int .i64 e]] w fun en w' => en = .returned (.tuple #[.int .u64 0, .int .i64 1]) ∧ Below w.heap.size w w' := by
  obtain ⟨cm, ce⟩ := c_yes (X := X) he
  obtain ⟨gB, hgB⟩ : ∃ g, lgB (cM X e) = g := ⟨_, rfl⟩
  obtain ⟨t, ht⟩ : ∃ t, lgI (cM X e) (cE e) = t := ⟨_, rfl⟩
  obtain ⟨s, hs⟩ : ∃ s, sgnI (cM X e) = s := ⟨_, rfl⟩
  have hall : s ≤ 0 ∨ (¬ s ≤ 0 ∧ t < -1022) ∨ (¬ s ≤ 0 ∧ ¬ t < -1022 ∧ 1023 < t) := by
    rw [cm] at hs
    rcases Int.lt_or_le 0 X with h0 | h0
    · have := sgnI_gt0.2 h0
      rw [cm, ce, lg_of (by omega)] at ht
      omega
    · have : ¬ 0 < sgnI X := fun hc => by have := sgnI_gt0.1 hc; omega
      omega
  have HG := Lib.hid (And.intro ht (And.intro hgB hs)); clear ht hgB hs cm ce hX he
  rcases hall with h1 | ⟨h1, h2⟩ | ⟨h1, h2, h3⟩
  · skip
    go_enter Tryd.func24, Tryd.ntmps24
    go_wp2_with fail
    have x_a : Dx (w.alloc (.cells #[.bool b, .slice A n c, .int .i64 e] 30)) (w.heap.size) b A n c e := by have := Dx.new w b A n c e; simpa using this
    have hb : Below w.heap.size w (w.alloc (.cells #[.bool b, .slice A n c, .int .i64 e] 30)) := (Below.alloc (Below.refl w.heap.size w) (by simp) (.cells #[.bool b, .slice A n c, .int .i64 e] 30))
    generalize w.alloc (.cells #[.bool b, .slice A n c, .int .i64 e] 30) = v1 at *
    replace h := h.keep hb
    have q_a0 := x_a.c0; have q_a1 := x_a.c1; have f_a0 := x_a.fr 0; have f_a1 := x_a.fr 1; have q_a2 := x_a.c2; have f_a2 := x_a.fr 2
    go_wp2_with fail
    with_reducible refine (DLog_any h (by omega)).mono ?_
    rintro e v2 ⟨rfl, hb1⟩
    replace x_a := x_a.keep hb1
    replace h := h.keep hb1
    replace hb := bthen hb hb1
    clear hb1
    replace q_a0 := x_a.c0; replace q_a1 := x_a.c1; replace f_a0 := x_a.fr 0; replace f_a1 := x_a.fr 1; replace q_a2 := x_a.c2; replace f_a2 := x_a.fr 2
    rw [HG.out.1, HG.out.2.1]
    go_wp2_with fail
    with_reducible refine (DSign_any h (by omega)).mono ?_
    rintro e v3 ⟨rfl, hb1⟩
    replace x_a := x_a.keep hb1
    replace h := h.keep hb1
    replace hb := bthen hb hb1
    clear hb1
    replace q_a0 := x_a.c0; replace q_a1 := x_a.c1; replace f_a0 := x_a.fr 0; replace f_a1 := x_a.fr 1; replace q_a2 := x_a.c2; replace f_a2 := x_a.fr 2
    rw [HG.out.2.2]
    go_wp2
    go_ret2
    exact ⟨rfl, hb⟩
  · skip
    go_enter Tryd.func24, Tryd.ntmps24
    go_wp2_with fail
    have x_a : Dx (w.alloc (.cells #[.bool b, .slice A n c, .int .i64 e] 30)) (w.heap.size) b A n c e := by have := Dx.new w b A n c e; simpa using this
    have hb : Below w.heap.size w (w.alloc (.cells #[.bool b, .slice A n c, .int .i64 e] 30)) := (Below.alloc (Below.refl w.heap.size w) (by simp) (.cells #[.bool b, .slice A n c, .int .i64 e] 30))
    generalize w.alloc (.cells #[.bool b, .slice A n c, .int .i64 e] 30) = v1 at *
    replace h := h.keep hb
    have q_a0 := x_a.c0; have q_a1 := x_a.c1; have f_a0 := x_a.fr 0; have f_a1 := x_a.fr 1; have q_a2 := x_a.c2; have f_a2 := x_a.fr 2
    go_wp2_with fail
    with_reducible refine (DLog_any h (by omega)).mono ?_
    rintro e v2 ⟨rfl, hb1⟩
    replace x_a := x_a.keep hb1
    replace h := h.keep hb1
    replace hb := bthen hb hb1
    clear hb1
    replace q_a0 := x_a.c0; replace q_a1 := x_a.c1; replace f_a0 := x_a.fr 0; replace f_a1 := x_a.fr 1; replace q_a2 := x_a.c2; replace f_a2 := x_a.fr 2
    rw [HG.out.1, HG.out.2.1]
    go_wp2_with fail
    with_reducible refine (DSign_any h (by omega)).mono ?_
    rintro e v3 ⟨rfl, hb1⟩
    replace x_a := x_a.keep hb1
    replace h := h.keep hb1
    replace hb := bthen hb hb1
    clear hb1
    replace q_a0 := x_a.c0; replace q_a1 := x_a.c1; replace f_a0 := x_a.fr 0; replace f_a1 := x_a.fr 1; replace q_a2 := x_a.c2; replace f_a2 := x_a.fr 2
    rw [HG.out.2.2]
    go_wp2
    go_ret2
    exact ⟨rfl, hb⟩
  · skip
    go_enter Tryd.func24, Tryd.ntmps24
    go_wp2_with fail
    have x_a : Dx (w.alloc (.cells #[.bool b, .slice A n c, .int .i64 e] 30)) (w.heap.size) b A n c e := by have := Dx.new w b A n c e; simpa using this
    have hb : Below w.heap.size w (w.alloc (.cells #[.bool b, .slice A n c, .int .i64 e] 30)) := (Below.alloc (Below.refl w.heap.size w) (by simp) (.cells #[.bool b, .slice A n c, .int .i64 e] 30))
    generalize w.alloc (.cells #[.bool b, .slice A n c, .int .i64 e] 30) = v1 at *
    replace h := h.keep hb
    have q_a0 := x_a.c0; have q_a1 := x_a.c1; have f_a0 := x_a.fr 0; have f_a1 := x_a.fr 1; have q_a2 := x_a.c2; have f_a2 := x_a.fr 2
    go_wp2_with fail
    with_reducible refine (DLog_any h (by omega)).mono ?_
    rintro e v2 ⟨rfl, hb1⟩
    replace x_a := x_a.keep hb1
    replace h := h.keep hb1
    replace hb := bthen hb hb1
    clear hb1
    replace q_a0 := x_a.c0; replace q_a1 := x_a.c1; replace f_a0 := x_a.fr 0; replace f_a1 := x_a.fr 1; replace q_a2 := x_a.c2; replace f_a2 := x_a.fr 2
    rw [HG.out.1, HG.out.2.1]
    go_wp2_with fail
    with_reducible refine (DSign_any h (by omega)).mono ?_
    rintro e v3 ⟨rfl, hb1⟩
    replace x_a := x_a.keep hb1
    replace h := h.keep hb1
    replace hb := bthen hb hb1
    clear hb1
    replace q_a0 := x_a.c0; replace q_a1 := x_a.c1; replace f_a0 := x_a.fr 0; replace f_a1 := x_a.fr 1; replace q_a2 := x_a.c2; replace f_a2 := x_a.fr 2
    rw [HG.out.2.2]
    go_wp2
    go_ret2
    exact ⟨rfl, hb⟩

end Go.Proofs.YthbodamihiddhaaDoor
