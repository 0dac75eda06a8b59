/-
  Same, side, Cmp.
-/
import Derived.Test.YtcoidcbbdibnaaaDoorMake
namespace Go.Proofs.YtcoidcbbdibnaaaDoor
open Go.RowKit
set_option linter.unusedVariables false

/-- The world has only drawn. -/
def Quiet (w w' : World) : Prop := ∃ n, w' = w.drewN n
theorem Quiet.below {B : Nat} {w w' : World} (h : Quiet w w') : Below B w w' := by obtain ⟨n, rfl⟩ := h; exact below_drewN (Below.refl _ _) n
theorem Quiet.refl (w : World) : Quiet w w := ⟨0, rfl⟩
theorem Quiet.drewN {w w' : World} (h : Quiet w w') (n : Nat) : Quiet w (w'.drewN n) := by
  obtain ⟨m, rfl⟩ := h; exact ⟨m + n, by simp [World.drewN, Nat.add_assoc]⟩
theorem Quiet.cell {w w' : World} (h : Quiet w w') (a : Addr) : w'.cell? a = w.cell? a := by obtain ⟨n, rfl⟩ := h; rfl
theorem Quiet.size {w w' : World} (h : Quiet w w') : w'.heap.size = w.heap.size := by obtain ⟨n, rfl⟩ := h; rfl

theorem ret_bool {a b : Bool} (h : a = b) : Ending.returned (.bool a) = .returned (.bool b) := by rw [h]
def sameB (l m : List Int) : Bool := decide (l = m)

theorem same_full {l m : List Int} (h : l.length = m.length) (hk : ∀ j (h1 : j < l.length) (h2 : j < m.length), l[j] = m[j]) : true = sameB l m := by
  unfold sameB
  rw [eq_comm, decide_eq_true_iff]
  exact List.ext_getElem h hk
theorem same_not {l m : List Int} {k : Nat} (h1 : k < l.length) (h2 : k < m.length) (h : l[k] ≠ m[k]) : false = sameB l m := by
  unfold sameB
  rw [eq_comm, decide_eq_false_iff_not]
  rintro rfl
  exact h rfl
theorem same_len {l m : List Int} (h : l.length ≠ m.length) : false = sameB l m := by
  unfold sameB
  rw [eq_comm, decide_eq_false_iff_not]
  rintro rfl
  exact h rfl

theorem same_step {l m : List Int} {k : Nat} (hz : ∀ j (h1 : j < l.length) (h2 : j < m.length), j < k → l[j] = m[j]) (h1 : k < l.length) (h2 : k < m.length) (h : l[k] = m[k]) : ∀ j (h1 : j < l.length) (h2 : j < m.length), j < k + 1 → l[j] = m[j] :=
  fun j h1 h2 hj => by
    rcases Nat.lt_or_ge j k with h3 | h3
    · exact hz j h1 h2 h3
    · obtain rfl : j = k := by omega
      exact h

set_option maxHeartbeats 400000 in
theorem Same_any (A A2 : Option Addr) (n c n2 c2 : Nat) (l m : List Int) (w : World) (B : Nat) (h : Rd w B A n c l) (h2 : Rd w B A2 n2 c2 m) :
    Calls Tryd.prog 63 #[.slice A n c, .slice A2 n2 c2] w fun e w' => e = .returned (.bool (sameB l m)) ∧ Quiet w w' := by
  have hcap := h.cap
  have hbig := h.big
  have H := Lib.hid h.len
  have H2 := Lib.hid h2.len
  by_cases hne : n = n2
  · subst hne
    have hb0 : ((n : Int) != n) = false := by simp
    go_enter Tryd.func63, Tryd.ntmps63
    go_wp2
    go_loopw [5] (fun i wr => ∃ k : Nat, k ≤ n ∧ i = .int .i64 k ∧ Hid (∀ j (h1 : j < l.length) (h2 : j < m.length), j < k → l[j] = m[j]) ∧ Quiet w wr) (fun i _ => n - (intOf i).toNat)
    case atStart => exact ⟨0, Nat.zero_le _, rfl, fun j _ _ h => absurd h (by omega), Quiet.refl w⟩
    case round =>
      obtain ⟨k, hk, rfl, hz, hq⟩ := hrel
      by_cases hkn : k < n
      · obtain ⟨b, off, rfl, hb, hc⟩ := h.at_ (by omega)
        obtain ⟨b2, off2, rfl, hb2, hc2⟩ := h2.at_ (by omega)
        have hkl : k < l.length := by have := H.out; omega
        have hkm : k < m.length := by have := H2.out; omega
        have hck := (hq.cell _).trans (hc k hkl)
        have hck2 := (hq.cell _).trans (hc2 k hkm)
        clear hc hc2
        generalize hx : l[k] = x at hck
        have Hx := Lib.hid hx; clear hx
        generalize hy : m[k] = y at hck2
        have Hy := Lib.hid hy; clear hy
        go_wp2
        go_quiet (fail)
        go_wp2
        · have h0 : (x != y) = true := by assumption
          go_ret
          exact ⟨ret_bool (same_not hkl hkm (by rw [Hx.out, Hy.out]; simpa using h0)), hq.drewN _⟩
        · have h0 : (x != y) = false := by assumption
          have h1 : l[k] = m[k] := by rw [Hx.out, Hy.out]; simpa using h0
          go_roundw
          case rel => exact ⟨k + 1, by omega, by go_num, same_step hz.out hkl hkm h1, hq.drewN _⟩
          case measure => simp [intOf]; omega
      · go_wp2
        go_ret
        exact ⟨ret_bool (same_full (H.out.trans H2.out.symm) fun j h1 h2 => hz.out j h1 h2 (by have := H.out; omega)), hq⟩
  · have hb0 : ((n : Int) != n2) = true := by simp; omega
    go_enter Tryd.func63, Tryd.ntmps63
    go_wp2
    go_ret
    exact ⟨ret_bool (same_len (by rw [H.out, H2.out]; exact hne)), Quiet.refl w⟩
/-- The order of two numbers. -/
def cmpI (a b : Nat) : Int := if a < b then -1 else if b < a then 1 else 0
def sideI (b : Bool) : Int := if b then -1 else 1

set_option maxHeartbeats 400000 in
theorem side_any (b : Bool) (w : World) : Calls Tryd.prog 93 #[.bool b] w fun e w' => e = .returned (.int .i64 (sideI b)) ∧ w = w' := by
  cases b
  all_goals
    go_enter Tryd.func93, Tryd.ntmps93
    go_wp2
    go_ret
    exact ⟨rfl, rfl⟩

theorem ret_i64 {a b : Int} (h : a = b) : Ending.returned (.int .i64 a) = .returned (.int .i64 b) := by rw [h]
theorem len_lt {b : Nat} (hb : 2 ≤ b) {N M : Nat} (h : (dg b N).length < (dg b M).length) : N < M := by
  rcases Nat.lt_or_ge N M with h1 | h1
  · exact h1
  · have := dg_len_mono hb h1; omega
theorem cmp_len {b : Nat} (hb : 2 ≤ b) {N M : Nat} (h : (dg b N).length ≠ (dg b M).length) : sideI (decide ((dg b N).length < (dg b M).length)) = cmpI N M := by
  rcases Nat.lt_or_gt_of_ne h with h1 | h1
  · have := len_lt hb h1
    simp [sideI, cmpI, h1, this]
  · have := len_lt hb h1
    have h2 : ¬ (dg b N).length < (dg b M).length := by omega
    have h3 : ¬ N < M := by omega
    simp [sideI, cmpI, h2, this, h3]
theorem top_lt {b : Nat} (hb : 2 ≤ b) {l m : List Int} (hl : Lim b l) (hm : Lim b m) (hlen : l.length = m.length) {k : Nat} (h1 : k < l.length) (h2 : k < m.length)
    (hz : ∀ j (h1 : j < l.length) (h2 : j < m.length), k < j → l[j] = m[j]) (h : l[k] < m[k]) : vl b l < vl b m := by
  have e1 := vl_split b l k (by omega)
  have e2 := vl_split b m k (by omega)
  rw [vl_drop_step b l k h1] at e1
  rw [vl_drop_step b m k h2] at e2
  have e3 : l.drop (k + 1) = m.drop (k + 1) := List.ext_getElem (by simp [hlen]) fun j ha hb => by
    rw [List.getElem_drop, List.getElem_drop]; exact hz _ _ _ (by omega)
  have b1 := vl_lt (hl.take k)
  rw [List.length_take, Nat.min_eq_left (by omega)] at b1
  have c1 := hl.get h1
  have c2 := hm.get h2
  rw [e3] at e1
  generalize vl b (m.drop (k + 1)) = r at *
  have h4 : b ^ k * (l[k].toNat + b * r + 1) ≤ b ^ k * (m[k].toNat + b * r) := Nat.mul_le_mul_left _ (by omega)
  rw [Nat.mul_add (b ^ k) _ 1, Nat.mul_one] at h4
  omega
theorem cmp_at {b : Nat} (hb : 2 ≤ b) {N M : Nat} (hlen : (dg b N).length = (dg b M).length) {k : Nat} (h1 : k < (dg b N).length) (h2 : k < (dg b M).length)
    (hz : ∀ j (h1 : j < (dg b N).length) (h2 : j < (dg b M).length), k < j → (dg b N)[j] = (dg b M)[j]) (h : (dg b N)[k] ≠ (dg b M)[k]) : sideI (decide ((dg b N)[k] < (dg b M)[k])) = cmpI N M := by
  rcases Int.lt_or_gt_of_ne h with h3 | h3
  · have := top_lt hb (Lim_dg hb N) (Lim_dg hb M) hlen h1 h2 hz h3
    rw [vl_dg hb, vl_dg hb] at this
    simp [sideI, cmpI, h3, this]
  · have := top_lt hb (Lim_dg hb M) (Lim_dg hb N) hlen.symm h2 h1 (fun j a b c => (hz j b a c).symm) h3
    rw [vl_dg hb, vl_dg hb] at this
    have h4 : ¬ (dg b N)[k] < (dg b M)[k] := by omega
    have h5 : ¬ N < M := by omega
    simp [sideI, cmpI, h4, this, h5]
theorem cmp_eq {b : Nat} (hb : 2 ≤ b) {N M : Nat} (hlen : (dg b N).length = (dg b M).length) (hz : ∀ j (h1 : j < (dg b N).length) (h2 : j < (dg b M).length), (dg b N)[j] = (dg b M)[j]) : 0 = cmpI N M := by
  have := dg_inj hb (List.ext_getElem hlen hz)
  simp [cmpI, this]

theorem cmp_step {l m : List Int} {n k i : Nat} (hz : ∀ j (h1 : j < l.length) (h2 : j < m.length), n ≤ j + k → l[j] = m[j]) (h1 : i < l.length) (h2 : i < m.length) (hi : n = i + 1 + k) (h : l[i] = m[i]) :
    ∀ j (h1 : j < l.length) (h2 : j < m.length), n ≤ j + (k + 1) → l[j] = m[j] := fun j h1 h2 hj => by
  rcases Nat.lt_or_ge (j + k) n with h3 | h3
  · obtain rfl : j = i := by omega
    exact h
  · exact hz j h1 h2 h3

set_option maxHeartbeats 1000000 in
theorem Cmp_any (A A2 : Option Addr) (n c n2 c2 : Nat) (l m : List Int) (w : World) (B : Nat) (h : Rd w B A n c l) (h2 : Rd w B A2 n2 c2 m) :
    Calls Tryd.prog 70 #[.slice A n c, .slice A2 n2 c2] w fun e w' => e = .returned (.int .i64 (cmpI (vl Wd l) (vl Wd m))) ∧ Quiet w w' := by
  generalize hN : vl Wd l = N
  generalize hM : vl Wd m = M
  have HN := Lib.hid hN; clear hN
  have HM := Lib.hid hM; clear hM
  go_enter Tryd.func70, Tryd.ntmps70
  go_wp2_with fail
  refine (trim_any _ _ _ _ _ B h).mono ?_
  rintro e w' ⟨A', n', c', rfl, hrd, rfl⟩
  go_wp2_with fail
  refine (trim_any _ _ _ _ _ B h2).mono ?_
  rintro e w' ⟨A2', n2', c2', rfl, hrd2, rfl⟩
  rw [HN.out] at hrd
  rw [HM.out] at hrd2
  have hcap := hrd.cap
  have hbig := hrd.big
  have hcap2 := hrd2.cap
  have hbig2 := hrd2.big
  have H := Lib.hid hrd.len
  have H2 := Lib.hid hrd2.len
  clear h h2
  by_cases hne : n' = n2'
  · subst hne
    have hb0 : ((n' : Int) != n') = false := by simp
    go_wp2_with fail
    go_loopw [24, 5, 6] (fun i _ _ wr => ∃ k : Nat, k ≤ n' ∧ i = .int .i64 k ∧ Hid (∀ j (h1 : j < (dg Wd N).length) (h2 : j < (dg Wd M).length), n' ≤ j + k → (dg Wd N)[j] = (dg Wd M)[j]) ∧ Quiet w wr) (fun i _ _ _ => n' - (intOf i).toNat)
    case atStart => exact ⟨0, Nat.zero_le _, rfl, fun j h1 _ h => absurd h (by have := H.out; omega), Quiet.refl w⟩
    case round =>
      obtain ⟨k, hk, rfl, hz, hq⟩ := hrel
      by_cases hkn : k < n'
      · obtain ⟨b, off, rfl, hb, hc⟩ := hrd.at_ (by omega)
        obtain ⟨b2, off2, rfl, hb2, hc2⟩ := hrd2.at_ (by omega)
        obtain ⟨i, hi⟩ : ∃ i, n' = i + 1 + k := ⟨n' - 1 - k, by omega⟩
        have hkl : i < (dg Wd N).length := by have := H.out; omega
        have hkm : i < (dg Wd M).length := by have := H2.out; omega
        have hck := (hq.cell _).trans (hc i hkl)
        have hck2 := (hq.cell _).trans (hc2 i hkm)
        clear hc hc2
        generalize hx : (dg Wd N)[i] = x at hck
        have Hx := Lib.hid hx; clear hx
        generalize hy : (dg Wd M)[i] = y at hck2
        have Hy := Lib.hid hy; clear hy
        have e1 : (n' : Int) - 1 - k = i := by omega
        have HI := Lib.hid hi; clear hi
        go_wp2
        go_quiet (fail)
        have hq2 := hq.drewN nq
        have hcn : (wr.drewN nq).cell? ⟨b, off + i, none⟩ = _ := hck
        have hcn2 : (wr.drewN nq).cell? ⟨b2, off2 + i, none⟩ = _ := hck2
        generalize wr.drewN nq = wq at *
        clear hck hck2 hq
        have hin : (i : Int) < n' := by omega
        go_wp2
        · have h0 : (x != y) = true := by assumption
          go_quiet ((go_at_call 93; exact Calls.quiet_of_same ((side_any _ _).mono fun _ _ hh => ⟨hh.1, hh.2.symm⟩)))
          go_wp2
          go_ret
          refine ⟨ret_i64 ?_, hq2.drewN _⟩
          have := cmp_at Wd2 (H.out.trans H2.out.symm) hkl hkm (fun j h1 h2 hj => hz.out j h1 h2 (by have := HI.out; omega)) (by rw [Hx.out, Hy.out]; simpa using h0)
          rw [Hx.out, Hy.out] at this
          exact this
        · have h0 : (x != y) = false := by assumption
          have h1 : (dg Wd N)[i] = (dg Wd M)[i] := by rw [Hx.out, Hy.out]; simpa using h0
          go_roundw
          case rel => exact ⟨k + 1, by omega, by go_num, cmp_step hz.out hkl hkm (by have := HI.out; omega) h1, hq2⟩
          case measure => simp [intOf]; omega
      · go_wp2
        go_ret
        exact ⟨ret_i64 (cmp_eq Wd2 (H.out.trans H2.out.symm) fun j h1 h2 => hz.out j h1 h2 (by have := H.out; omega)), hq⟩
  · have hb0 : ((n' : Int) != n2') = true := by simp; omega
    go_wp2_with fail
    refine (side_any _ _).mono ?_
    rintro e w' ⟨rfl, rfl⟩
    go_wp2
    go_ret
    refine ⟨ret_i64 ?_, Quiet.refl _⟩
    have := cmp_len Wd2 (N := N) (M := M) (by rw [H.out, H2.out]; exact hne)
    rw [H.out, H2.out] at this
    simpa using this
end Go.Proofs.YtcoidcbbdibnaaaDoor
