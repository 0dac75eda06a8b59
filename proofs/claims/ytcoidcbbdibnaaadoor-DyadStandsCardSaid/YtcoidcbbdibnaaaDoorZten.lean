/-
  zed: tenPowers.
-/
import Derived.Test.YtcoidcbbdibnaaaDoorZpow
namespace Go.Proofs.YtcoidcbbdibnaaaDoor
open Go.RowKit
set_option linter.unusedVariables false

/-- A power among those that are gathered; its limbs are not in the gathering's own block. -/
def El (w : World) (ov : Value) (k : Nat) (v : Value) : Prop :=
  ∃ A n c, v = .slice A n c ∧ Rd w w.heap.size A n c (dg Wd (tp k)) ∧ (n = 0 ∨ ∃ b off, A = some ⟨b, off, none⟩ ∧ ov.ownBlock ≠ some b)
theorem El.keep {w w' : World} {ov v : Value} {k : Nat} (h : El w ov k v) (hb : Below w.heap.size w w') : El w' ov k v := by
  obtain ⟨A, n, c, h1, h2, h3⟩ := h; exact ⟨A, n, c, h1, h2.go hb, h3⟩
theorem El.push {w w' : World} {ov ov' v : Value} {k : Nat} (h : El w ov k v) (hg : w.grownBy w' ov.ownBlock) (ho : ov'.ownBlock = ov.ownBlock ∨ ov'.ownBlock = some w.heap.size) : El w' ov' k v := by
  obtain ⟨A, n, c, h1, h2, h3⟩ := h
  rcases Nat.eq_zero_or_pos n with h0 | h0
  · refine ⟨A, n, c, h1, ⟨h2.1, h2.2.1, h2.2.2.1, h2.2.2.2.1, fun hp => by omega⟩, .inl h0⟩
  · obtain ⟨b, off, rfl, hb, hc⟩ := h2.at_ h0
    rcases h3 with h3 | ⟨b', off', e, hne⟩
    · omega
    · injection e with e
      injection e with e1 e2
      subst e1 e2
      refine ⟨_, n, c, h1, ⟨h2.1, h2.2.1, h2.2.2.1, h2.2.2.2.1, fun _ => ⟨b, off, rfl, Nat.lt_of_lt_of_le hb hg.size, fun j hj => ?_⟩⟩, .inr ⟨b, off, rfl, ?_⟩⟩
      · rw [← hc j hj]; exact World.cell?_of_block (hg.block b hb (fun e => hne e.symm))
      · rcases ho with ho | ho
        · rw [ho]; exact hne
        · rw [ho]; intro e; injection e with e; omega
def TpRel (w : World) (m : Nat) (ov : Value) (wr : World) : Prop :=
  ∃ l : List Value, l.length = m ∧ Os wr w.heap.size ov l ∧ Below w.heap.size w wr ∧ ∀ k (hk : k < l.length), El wr ov k l[k]
def TpPost (w : World) (n : Nat) (e : Ending) (w' : World) : Prop :=
  ∃ A m c, e = .returned (.slice A m c) ∧ Pw w' A m c ∧ 1 ≤ m ∧ n ≤ 19 * 2 ^ m ∧ 19 * 2 ^ m ≤ 2 * n + 38 ∧ Below w.heap.size w w'
theorem TpRel.pw {w wr : World} {m : Nat} {ov : Value} (h : TpRel w m ov wr) (hm : 0 < m) : ∃ A c, ov = .slice A m c ∧ Pw wr A m c ∧ Below w.heap.size w wr := by
  obtain ⟨l, rfl, h1, h2, h3⟩ := h
  obtain ⟨g, cap, hv, hg, hlt, hcap, hc⟩ := h1.at_ hm
  refine ⟨_, cap, hv, ⟨hcap, fun _ => ⟨g, 0, rfl, hlt, fun k hk => ?_⟩⟩, h2⟩
  obtain ⟨A, n, c, e1, e2, _⟩ := h3 k hk
  refine ⟨A, n, c, ?_, e2⟩
  rw [Nat.zero_add, hc k hk, e1]
theorem TpRel.next {w wr : World} {t : Nat} {ov : Value} (h : TpRel w (t + 1) ov wr) :
    ∃ (l : List Value) (g cap : Nat) (A : Option Addr) (n c : Nat), l.length = t + 1 ∧ ov = .slice (some ⟨g, 0, none⟩) (t + 1) cap ∧ t + 1 ≤ cap ∧ Os wr w.heap.size ov l ∧ Below w.heap.size w wr ∧ g < wr.heap.size ∧
      wr.cell? ⟨g, t, none⟩ = some (.slice A n c) ∧ Rd wr wr.heap.size A n c (dg Wd (tp t)) ∧ ∀ k (hk : k < l.length), El wr ov k l[k] := by
  obtain ⟨l, hl, h1, h2, h3⟩ := h
  obtain ⟨g, cap, hv, hg, hlt, hcap, hc⟩ := h1.at_ (by omega)
  obtain ⟨A, n, c, e1, e2, _⟩ := h3 t (by omega)
  exact ⟨l, g, cap, A, n, c, hl, by rw [hv, hl], by omega, h1, h2, hlt, by rw [hc t (by omega), e1], e2, h3⟩
theorem TpRel.push {w wr w2 w' : World} {t : Nat} {ov ov' : Value} {l : List Value} {A : Option Addr} {n c : Nat} {o : Obj} (hl : l.length = t + 1) (hb : Below w.heap.size w wr) (hb2 : Below wr.heap.size wr w2) (hel : ∀ k (hk : k < l.length), El wr ov k l[k])
    (hov : ∀ g, ov.ownBlock = some g → g < wr.heap.size ∧ w.heap.size ≤ g) (hrd : Rd w2 w2.heap.size A n c (dg Wd (tp (t + 1)))) (hnew : n = 0 ∨ ∃ b off, A = some ⟨b, off, none⟩ ∧ wr.heap.size ≤ b)
    (h1 : Os w' w.heap.size ov' (l ++ [.slice A n c])) (hg : (w2.alloc o).grownBy w' ov.ownBlock) (ho : ov'.ownBlock = ov.ownBlock ∨ ov'.ownBlock = some (w2.alloc o).heap.size) : TpRel w (t + 2) ov' w' := by
  have hba := below_alloc w2 o
  have e0 : El w2 ov (t + 1) (.slice A n c) := ⟨A, n, c, rfl, hrd, hnew.imp id (fun ⟨b, off, e, hle⟩ => ⟨b, off, e, fun he => by have := (hov b he).1; omega⟩)⟩
  have hbw := bthen (bthen hb hb2) hba
  refine ⟨l ++ [.slice A n c], by simp [hl], h1, ⟨hg.os.trans hbw.os, hg.tape.trans hbw.tape, hg.output.trans hbw.output, Nat.le_trans hbw.size hg.size, fun k hk => ?_⟩, fun k hk => ?_⟩
  · refine (hg.block k (Nat.lt_of_lt_of_le hk hbw.size) (fun e => ?_)).trans (hbw.block k hk)
    have := (hov k e.symm).2
    omega
  · by_cases hkl : k < l.length
    · rw [List.getElem_append_left hkl]
      exact (((hel k hkl).keep hb2).keep hba).push hg ho
    · have hkt : k = t + 1 := by simp at hk; omega
      subst hkt
      rw [List.getElem_append_right (by omega)]
      simp only [hl, Nat.sub_self, List.getElem_cons_zero]
      exact (e0.keep hba).push hg ho

set_option maxHeartbeats 2000000 in
theorem tenPowers_any (n : Nat) (w : World) (hn : n ≤ 100000000) : Calls Tryd.prog 72 #[.int .i64 n] w (TpPost w n) := by
  have hl1 := lay1 w 10000000000000000000 (lm_small (by omega) (by omega))
  have hb1 := below_alloc w (.cells #[.int .u64 10000000000000000000] 31)
  have ho1 := Os.one (w.alloc (.cells #[.int .u64 10000000000000000000] 31)) w.heap.size (.slice (some ⟨w.heap.size, 0, none⟩) 1 1) hb1.size
  rw [show (w.alloc (.cells #[.int .u64 10000000000000000000] 31)).heap.size = w.heap.size + 1 by simp] at ho1
  have hb2 := below_alloc (w.alloc (.cells #[.int .u64 10000000000000000000] 31)) (.cells #[.slice (some ⟨w.heap.size, 0, none⟩) 1 1] 22)
  have hdg : [(10000000000000000000 : Int)] = dg Wd (tp 0) := by rw [tp_zero]; exact (dg_lit1 (by rw [Wd_eq]; decide) (by decide)).symm
  have h0 : TpRel w 1 (.slice (some ⟨w.heap.size + 1, 0, none⟩) 1 1) ((w.alloc (.cells #[.int .u64 10000000000000000000] 31)).alloc (.cells #[.slice (some ⟨w.heap.size, 0, none⟩) 1 1] 22)) := by
    refine ⟨_, rfl, ho1, bthen hb1 hb2, fun k hk => ?_⟩
    obtain rfl : 0 = k := by simp at hk; omega
    refine ⟨_, _, _, rfl, ?_, .inr ⟨_, _, rfl, ?_⟩⟩
    · rw [← hdg]; exact hl1.go hb2
    · simp [Value.ownBlock]
  have H0 := Lib.hid h0
  clear h0 hdg hb2 ho1 hb1 hl1
  go_enter Tryd.func72, Tryd.ntmps72
  go_wp2
  go_loopw [3, 4, 5] (fun ov sv _ wr => ∃ t s : Nat, sv = .int .i64 s ∧ s = 19 * 2 ^ (t + 1) ∧ s ≤ 2 * n + 38 ∧ TpRel w (t + 1) ov wr) (fun _ sv _ _ => n - (intOf sv).toNat)
  case atStart => exact ⟨0, 38, rfl, rfl, by omega, H0.out⟩
  case round =>
    obtain ⟨t, s, rfl, hs, hsn, hR⟩ := hrel
    have ht : t < 2 ^ t := Nat.lt_two_pow_self
    have hp1 : (2 : Nat) ^ (t + 1) = 2 * 2 ^ t := by rw [Nat.pow_succ]; omega
    have hs1 : 38 ≤ s := by omega
    have hp2 : 2 ^ t ≤ s := by omega
    have hts : t ≤ s := by omega
    have hs2 : 2 * s = 19 * 2 ^ (t + 1 + 1) := by rw [Nat.pow_succ 2 (t + 1)]; omega
    have HS := Lib.hid hs; have HS2 := Lib.hid hs2
    clear hs hs2 hp1
    by_cases hlt : s < n
    · obtain ⟨l, g, cap, A, n1, c1, hl, rfl, hcap, hown, hb, hg, hcell, hrd, hel⟩ := hR.next
      have HL := Lib.hid hl; have HEL := Lib.hid hel
      have hown2 : ∀ g', (Value.slice (some ⟨g, 0, none⟩) (t + 1) cap).ownBlock = some g' → g' < wr.heap.size ∧ w.heap.size ≤ g' := fun g' e => by
        injection e with e
        change g = g' at e
        subst e
        obtain ⟨g2, cap2, e2, e3, _⟩ := hown.at_ (by omega)
        injection e2 with e2
        injection e2 with e2
        injection e2 with e2
        exact ⟨hg, by omega⟩
      have HO := Lib.hid hown2
      have hsz : n1 ≤ 100000000 := Nat.le_trans (hrd.small (tp_sm t)) (by omega)
      have htp : tp t * tp t = tp (t + 1) := (tp_succ t).symm
      have HT := Lib.hid htp
      have hlen : l.length ≤ 1000000000 := by omega
      clear hl hel hown2 hR htp H0 hp2
      have e1 : ((t + 1 : Nat) : Int) - 1 = t := by omega
      have e2 : (t : Int) < ((t + 1 : Nat) : Int) := by omega
      go_wp2_with fail
      refine (Mul_new _ _ _ _ _ _ _ _ _ hrd hrd (by omega) (by omega)).mono ?_
      rintro e w2 ⟨A2, n2, c2, rfl, g2, hb2, hnew⟩
      have HNEW := Lib.hid hnew; clear hnew
      rw [vl_dg Wd2, HT.out] at g2
      have hown3 := (hown.keep hb2).keep (below_alloc w2 (.cells #[.slice A2 n2 c2] 22))
      have hsz2 : w.heap.size ≤ (w2.alloc (.cells #[.slice A2 n2 c2] 22)).heap.size := (bthen (bthen hb hb2) (below_alloc w2 _)).size
      have e4 : IntKind.i64.wrap ((s : Int) * 2) = (2 * s : Nat) := by rw [IntWalk.i64_in _ (by omega)]; omega
      go_wp2_with (at_builtin; refine wp_pushS rfl (.tmp 19) (.tmp 23) rfl w.heap.size _ l rfl hown3 w2.heap.size A2 n2 c2 rfl (by simp) hlen hsz2 ?_; intro v' w' q1 q2 q3)
      have R := TpRel.push (o := .cells #[.slice A2 n2 c2] 22) HL.out hb hb2 HEL.out HO.out g2 HNEW.out q1 q2 q3
      go_roundw
      case rel => exact ⟨t + 1, 2 * s, by go_num, HS2.out, by omega, R⟩
      case measure => simp [intOf]; omega
    · obtain ⟨A, c, rfl, hpw, hb⟩ := hR.pw (by omega)
      go_wp2
      go_ret
      exact ⟨_, _, _, rfl, hpw, by omega, by rw [← HS.out]; omega, by rw [← HS.out]; exact hsn, hb⟩
end Go.Proofs.YtcoidcbbdibnaaaDoor
