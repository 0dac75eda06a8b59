/-
  DivMod, Gcd.
-/
import Derived.Test.YtcoidcbbdibnaaaDoorLong
import Derived.Deep.LoopGhost
namespace Go.Proofs.YtcoidcbbdibnaaaDoor
open Go.RowKit
set_option linter.unusedVariables false

/-- A number of one limb in block g, trimmed. -/
def one1 (g : Nat) (x : Int) : Value := if x = 0 then .slice none 0 0 else .slice (some ⟨g, 0, none⟩) 1 1
theorem one_rd {w : World} {g : Nat} {x : Int} (hx : Lm x) (hc : w.cell? ⟨g, 0, none⟩ = some (.int .u64 x)) : Rd w (g + 1) (some ⟨g, 0, none⟩) 1 1 [x] := by
  refine ⟨rfl, Nat.le_refl _, by omega, fun y hy => ?_, fun _ => ⟨g, 0, rfl, by omega, fun k hk => ?_⟩⟩
  · simp at hy; subst hy; exact hx
  · simp at hk; subst hk; simpa using hc
theorem dg_one {x : Int} (hx : Lm x) : dg Wd x.toNat = if x = 0 then [] else [x] := by
  split
  · rename_i h; subst h; exact dg_zero Wd
  · rename_i h
    have := dg_of Wd2 (l := [x]) (fun y hy => by simp at hy; subst hy; exact hx) (fun y hy => by simp at hy; subst hy; exact h)
    simp [vl] at this
    exact this
theorem trim_one (g : Nat) (x : Int) (w : World) (hx : Lm x) (hc : w.cell? ⟨g, 0, none⟩ = some (.int .u64 x)) :
    Calls Tryd.prog 89 #[.slice (some ⟨g, 0, none⟩) 1 1] w fun e w' => e = .returned (one1 g x) ∧ w = w' := by
  by_cases h0 : x = 0
  · subst h0
    go_enter Tryd.func89, Tryd.ntmps89
    go_wp2
    refine wp_loop_rounds 2 ?_
    rw [rounds_succ]
    go_wp2
    rw [rounds_succ]
    go_wp2
    go_ret
    exact ⟨rfl, rfl⟩
  · have hb : (x == 0) = false := by simpa using h0
    go_enter Tryd.func89, Tryd.ntmps89
    go_wp2
    refine wp_loop_rounds 1 ?_
    rw [rounds_succ]
    go_wp2
    go_ret
    exact ⟨by unfold one1; rw [if_neg h0]; rfl, rfl⟩

def DmPost (w : World) (N M : Nat) (e : Ending) (w' : World) : Prop :=
  ∃ A n c A2 n2 c2, e = .returned (.tuple #[.slice A n c, .slice A2 n2 c2, .bool true]) ∧ Rd w' w'.heap.size A n c (dg Wd (N / M)) ∧ Rd w' w'.heap.size A2 n2 c2 (dg Wd (N % M)) ∧ Below w.heap.size w w'

theorem one_val {N : Nat} (h : (dg Wd N).length = 1) (hk : 0 < (dg Wd N).length) : N = (dg Wd N)[0].toNat := by
  have h1 := vl_dg Wd2 N
  have h2 := vl_split Wd (dg Wd N) 0 (by omega)
  rw [vl_drop_step Wd _ 0 hk, List.drop_eq_nil_of_le (by omega)] at h2
  simp [vl] at h2
  omega
theorem one_divmod {x y q r : Int} (hx : 0 ≤ x ∧ x < (Wd : Int)) (hy : 0 ≤ y ∧ y < (Wd : Int)) (hy1 : 0 < y) (hq : IntKind.u64.wrap (x.tdiv y) = q) (hr : x.tmod y = r) :
    Lm q ∧ Lm r ∧ q.toNat = x.toNat / y.toNat ∧ r.toNat = x.toNat % y.toNat := by
  obtain ⟨a, rfl⟩ := Int.eq_ofNat_of_zero_le hx.1
  obtain ⟨b, rfl⟩ := Int.eq_ofNat_of_zero_le hy.1
  rw [Int.tdiv_eq_ediv_of_nonneg hx.1, ← Int.natCast_ediv] at hq
  rw [Int.tmod_eq_emod_of_nonneg hx.1, ← Int.natCast_emod] at hr
  have h1 : a / b ≤ a := Nat.div_le_self _ _
  have h2 : a % b ≤ a := Nat.mod_le _ _
  have hW := Wd_eq
  have e : IntKind.u64.wrap ((a / b : Nat) : Int) = ((a / b : Nat) : Int) := by
    generalize a / b = d at *
    rw [wrap_u64]; omega
  rw [e] at hq
  rw [← hq, ← hr, Int.toNat_natCast, Int.toNat_natCast, Int.toNat_natCast, Int.toNat_natCast]
  have ha : a < Wd := by omega
  exact ⟨⟨Int.natCast_nonneg _, Int.ofNat_lt.2 (Nat.lt_of_le_of_lt h1 ha)⟩, ⟨Int.natCast_nonneg _, Int.ofNat_lt.2 (Nat.lt_of_le_of_lt h2 ha)⟩, rfl, rfl⟩

theorem one_out {w : World} {g : Nat} {x : Int} (hx : Lm x) (hc : w.cell? ⟨g, 0, none⟩ = some (.int .u64 x)) : ∃ A n c, one1 g x = .slice A n c ∧ Rd w w.heap.size A n c (dg Wd x.toNat) := by
  rw [dg_one hx]
  unfold one1
  split
  · exact ⟨_, _, _, rfl, Rd.nil⟩
  · exact ⟨_, _, _, rfl, (one_rd hx hc).more (World.block_lt_of_cell? w _ hc)⟩
theorem dm_one {w w' : World} {g1 g2 : Nat} {q r : Int} {N M : Nat} (hq : Lm q) (hr : Lm r) (vq : q.toNat = N / M) (vr : r.toNat = N % M) (c1 : w'.cell? ⟨g1, 0, none⟩ = some (.int .u64 q)) (c2 : w'.cell? ⟨g2, 0, none⟩ = some (.int .u64 r))
    (hb : Below w.heap.size w w') : DmPost w N M (.returned (.tuple #[one1 g1 q, one1 g2 r, .bool true])) w' := by
  obtain ⟨A, n, c, e1, r1⟩ := one_out hq c1
  obtain ⟨A2, n2, c2', e2, r2⟩ := one_out hr c2
  rw [e1, e2]
  exact ⟨_, _, _, _, _, _, rfl, vq ▸ r1, vr ▸ r2, hb⟩

set_option maxHeartbeats 2000000 in
theorem DivMod_any (A A2 : Option Addr) (n c n2 c2 : Nat) (l m : List Int) (w : World) (h : Rd w w.heap.size A n c l) (h2 : Rd w w.heap.size A2 n2 c2 m) (hn : n ≤ 1099511627776) (hM0 : 0 < vl Wd m) :
    Calls Tryd.prog 96 #[.slice A n c, .slice A2 n2 c2] w (DmPost w (vl Wd l) (vl Wd m)) := by
  have hNn := dg_len_le Wd2 (h.len ▸ vl_lt h.lim : vl Wd l < Wd ^ n)
  generalize hN : vl Wd l = N at *
  generalize hM : vl Wd m = M at *
  have HN := Lib.hid hN; clear hN
  have HM := Lib.hid hM; clear hM
  go_enter Tryd.func96, Tryd.ntmps96
  go_wp2_with fail
  refine (trim_any _ _ _ _ _ _ h).mono ?_
  rintro e w' ⟨A', n', c', rfl, hrd, rfl⟩
  go_wp2_with fail
  refine (trim_any _ _ _ _ _ _ h2).mono ?_
  rintro e w' ⟨A2', n2', c2', rfl, hrd2, rfl⟩
  rw [HN.out] at hrd
  rw [HM.out] at hrd2
  clear h h2
  have H := Lib.hid hrd.len
  have H2 := Lib.hid hrd2.len
  have hs1 : n' ≤ 1099511627776 := by have := H.out; omega
  have hpos : 0 < n2' := by
    rcases Nat.eq_zero_or_pos n2' with h0 | h0
    · have := (dg_eq_nil Wd2).1 (List.eq_nil_of_length_eq_zero (H2.out.trans h0)); omega
    · exact h0
  have hb0 : ((n2' : Int) == 0) = false := by simp; omega
  by_cases hlt : n' < n2'
  · go_wp2_with fail
    refine (Norm_any _ _ _ _ _ _ hrd (Nat.le_refl _)).mono ?_
    rintro e w1 ⟨A3, n3, c3, rfl, hr3, hb3⟩
    have hNM : N < M := len_lt Wd2 (by rw [H.out, H2.out]; exact hlt)
    rw [vl_dg Wd2] at hr3
    go_wp2
    go_ret3
    exact ⟨_, _, _, _, _, _, rfl, by rw [Nat.div_eq_of_lt hNM, dg_zero]; exact Rd.nil, by rw [Nat.mod_eq_of_lt hNM]; exact hr3, hb3⟩
  · by_cases h1 : n' = 1
    · subst h1
      obtain rfl : 1 = n2' := by omega
      obtain ⟨b, of, rfl, hb, hc⟩ := hrd.at_ (by omega)
      obtain ⟨b2, of2, rfl, hb2, hc2⟩ := hrd2.at_ (by omega)
      have hk1 : 0 < (dg Wd N).length := by have := H.out; omega
      have hk2 : 0 < (dg Wd M).length := by have := H2.out; omega
      have c1 := hc 0 hk1
      have c2' := hc2 0 hk2
      have bx := (Lim_dg Wd2 N).get hk1
      have by_ := (Lim_dg Wd2 M).get hk2
      have vx := one_val H.out hk1
      have vy := one_val H2.out hk2
      generalize (dg Wd N)[0] = x at *
      generalize (dg Wd M)[0] = y at *
      have hx0 : 0 ≤ x := bx.1
      have hy0 : ¬ y = 0 := by omega
      have hy1 : 0 < y := by have := by_.1; omega
      have HVX := Lib.hid vx; have HVY := Lib.hid vy
      have c1' : w.cell? ⟨b, of, none⟩ = _ := c1
      have c2'' : w.cell? ⟨b2, of2, none⟩ = _ := c2'
      obtain ⟨q, hq⟩ : ∃ q, IntKind.u64.wrap (x.tdiv y) = q := ⟨_, rfl⟩
      obtain ⟨r, hr⟩ : ∃ r, x.tmod y = r := ⟨_, rfl⟩
      obtain ⟨lq, lr, vq, vr⟩ := one_divmod bx by_ hy1 hq hr
      rw [← HVX.out, ← HVY.out] at vq vr
      have HQ := Lib.hid vq; have HR := Lib.hid vr
      clear vx vy hc hc2 c1 c2' vq vr bx by_
      go_wp2
      go_region_held3 (fun w' => w'.cell? ⟨b, of, none⟩ = some (.int .u64 x) ∧ w'.cell? ⟨b2, of2, none⟩ = some (.int .u64 y)) (go_keep)
        (first | (go_at_call 89; refine (trim_one _ q _ lq ?_).mono ?_; (focus (simp; done)); rintro e w' ⟨rfl, rfl⟩) | (go_at_call 89; refine (trim_one _ r _ lr ?_).mono ?_; (focus (simp; done)); rintro e w' ⟨rfl, rfl⟩))
      all_goals go_wp2
      all_goals go_ret3
      all_goals first
        | exact dm_one (g1 := w.heap.size) (g2 := w.heap.size + 1) lq lr HQ.out HR.out (by simp) (by simp) (((Below.refl _ _).alloc (Nat.le_refl _) _).alloc (by simp) _).drew
        | exact dm_one (g1 := w.heap.size + 1) (g2 := w.heap.size) lq lr HQ.out HR.out (by simp) (by simp) (((Below.refl _ _).alloc (Nat.le_refl _) _).alloc (by simp) _).drew
    · have h1' : ((n' : Int) == 1) = false := by simp; omega
      obtain ⟨t, ht⟩ : ∃ t, n2' = t + 1 := ⟨n2' - 1, by omega⟩
      have htl : t < (dg Wd M).length := by have := H2.out; omega
      have hy : 0 < (dg Wd M)[t].toNat := by
        have h5 := dg_last Wd2 (n := M) (by omega)
        have h6 := (Lim_dg Wd2 M).get htl
        have h7 : (dg Wd M).length - 1 = t := by have := H2.out; omega
        simp only [h7] at h5
        omega
      have HT := Lib.hid ht; clear ht
      go_wp2_with fail
      refine (longDivide_any _ _ _ _ _ _ _ _ _ hrd hrd2 hs1 (by omega) t HT.out htl hy).mono ?_
      rintro e w1 ⟨A3, n3, c3, A4, n4, c4, lq, lr, rfl, z1, z2, z3, z4, z5⟩
      rw [vl_dg Wd2, vl_dg Wd2] at z3 z4
      have HZ3 := Lib.hid z3; have HZ4 := Lib.hid z4; clear z3 z4 hy
      go_wp2_with fail
      refine (trim_any _ _ _ _ _ _ z1).mono ?_
      rintro e w' ⟨A5, n5, c5, rfl, y1, rfl⟩
      go_wp2_with fail
      refine (trim_any _ _ _ _ _ _ z2).mono ?_
      rintro e w' ⟨A6, n6, c6, rfl, y2, rfl⟩
      rw [HZ3.out] at y1
      rw [HZ4.out] at y2
      go_wp2
      go_ret3
      exact ⟨_, _, _, _, _, _, rfl, y1, y2, z5⟩

set_option maxHeartbeats 400000 in
theorem DivMod_zero (A A2 : Option Addr) (n c n2 c2 : Nat) (l m : List Int) (w : World) (h : Rd w w.heap.size A n c l) (h2 : Rd w w.heap.size A2 n2 c2 m) (hM0 : vl Wd m = 0) :
    Calls Tryd.prog 96 #[.slice A n c, .slice A2 n2 c2] w fun e w' => e = .returned (.tuple #[.slice none 0 0, .slice none 0 0, .bool false]) ∧ w = w' := by
  have HM := Lib.hid hM0; clear hM0
  go_enter Tryd.func96, Tryd.ntmps96
  go_wp2_with fail
  refine (trim_any _ _ _ _ _ _ h).mono ?_
  rintro e w' ⟨A', n', c', rfl, hrd, rfl⟩
  go_wp2_with fail
  refine (trim_any _ _ _ _ _ _ h2).mono ?_
  rintro e w' ⟨A2', n2', c2', rfl, hrd2, rfl⟩
  rw [HM.out, dg_zero] at hrd2
  obtain rfl : 0 = n2' := hrd2.len
  go_wp2
  go_ret3
  exact ⟨rfl, rfl⟩

def GcRel (w : World) (G : Nat) (av bv : Value) (N M : Nat) (wr : World) : Prop :=
  ∃ A n c A2 n2 c2, av = .slice A n c ∧ bv = .slice A2 n2 c2 ∧ Rd wr wr.heap.size A n c (dg Wd N) ∧ Rd wr wr.heap.size A2 n2 c2 (dg Wd M) ∧ Nat.gcd N M = G ∧ n ≤ 1099511627776 ∧ n2 ≤ 1099511627776 ∧ Below w.heap.size w wr
def sliceLen : Value → Nat | .slice _ n _ => n | _ => 0

end Go.Proofs.YtcoidcbbdibnaaaDoor
