/-
  make and copy of limbs, as laws of the walk; Norm; Same.
-/
import Derived.Test.YtcoidcbbdibnaaaDoorMem
import Derived.Laws.CopyOwn
import Derived.Deep.QuietTactic
import Derived.BigQuiet
namespace Go.Proofs.YtcoidcbbdibnaaaDoor
open Go.RowKit
set_option linter.unusedVariables false

theorem Tryd.info64 : (Tryd.prog.info? 31).map (fun i => (i.zero, i.size, i.bytes)) = some (some (.int .u64 0), 1, 8) := by kernel_rfl

theorem madeCells64 (n : Nat) : madeCells (Value.int .u64 0).cells n = ((List.replicate n (0 : Int)).map (Value.int .u64)).toArray := by
  apply Array.toList_inj.1
  rw [show (Value.int .u64 0).cells = #[.int .u64 0] from rfl, toList_madeCells_one]
  simp

theorem wp_make64 {w : World} {ops : Array Oper} {rest : List Oper} {o : Oper} {a : Act} {Q : Exit → Act → World → Prop} (hg : o.guard = none) (l c : Operand) (hop : o.op = Op.makeSlice 22 l c)
    (n : Nat) (L C : Int) (hl : a.eval l = .int .i64 L) (hc : a.eval c = .int .i64 C) (hL : L = (n : Int)) (hC : C = (n : Int)) (hb : n ≤ 17592186044416)
    (hK : ∀ w', Bk w' w.heap.size (List.replicate n 0) → Below w.heap.size w w' → wpList Tryd.prog ops Q rest (a.put o.dst (.slice (some ⟨w.heap.size, 0, none⟩) n n)) w') :
    wpList Tryd.prog ops Q (o :: rest) a w := by
  obtain ⟨i0, hi, hz0, hz1, hz2⟩ := info_parts Tryd.info64
  refine wpList_make_full w hg l c 22 hop 0 31 i0 (.int .u64 0) 1 Tryd.underlying22 hi hz0 hz1 .i64 .i64 L C n hl hc hL hC (by rw [hz2]; omega) (by unfold maxLen; omega) (Nat.zero_le _) ?_
  intro w' hown hgrow
  refine hK w' ?_ ⟨hgrow.os, hgrow.tape, hgrow.output, hgrow.size, fun k hk => hgrow.block k hk (by simp)⟩
  obtain ⟨_, h2⟩ := hown
  rcases h2 with ⟨h, _⟩ | ⟨g, cap, cur, hv, _, hh, hnc, _, hcs, hxs⟩
  · cases h
  · injection hv with hv1 hv2 hv3
    injection hv1 with hv1
    injection hv1 with hv1
    subst hv1 hv3
    unfold Bk
    rw [hh]
    congr 2
    rw [Nat.mul_one, madeCells64, List.take_of_length_le (by simp; omega)] at hxs
    exact Array.toList_inj.1 hxs

theorem wp_copy64 {w : World} {ops : Array Oper} {rest : List Oper} {o : Oper} {a : Act} {Q : Exit → Act → World → Prop} (hg : o.guard = none) (d s : Operand)
    (hop : o.op = .call { callee := .builtin .copy, args := #[d, s], argTypes := #[22, 22] }) (g off dn dc : Nat) (A : Option Addr) (sn sc : Nat)
    (hd : a.eval d = .slice (some ⟨g, off, none⟩) dn dc) (hs : a.eval s = .slice A sn sc) (L l : List Int) (hbk : Bk w g L) (B : Nat) (hrd : Rd w B A sn sc l) (hn : sn ≤ dn) (hfit : off + dn ≤ L.length)
    (hK : ∀ w', Bk w' g (splice L off l) → w.grownBy w' (some g) → wpList Tryd.prog ops Q rest (a.put o.dst (.int .i64 sn)) w') :
    wpList Tryd.prog ops Q (o :: rest) a w := by
  have hl := hrd.len
  have hsz : (Tryd.prog.info? 31).map (·.size) = some 1 := by
    obtain ⟨i0, hi, hz0, hz1, hz2⟩ := info_parts Tryd.info64
    rw [hi]; simp [hz1]
  by_cases h0 : sn = 0
  · subst h0
    refine wpList_copy_nothing hg d s 22 22 hop 31 Tryd.underlying22 hsz _ _ _ _ _ _ hd hs (by simp) ?_
    have : l = [] := List.eq_nil_of_length_eq_zero hl
    subst this
    exact hK w (by simpa [splice] using hbk) ⟨rfl, rfl, rfl, Nat.le_refl _, fun _ _ _ => rfl⟩
  · obtain ⟨b, of, rfl, hb, hc⟩ := hrd.at_ (by omega)
    refine wpList_copy_own hg d s 22 22 hop 31 Tryd.underlying22 hsz g off dn dc _ sn sc hd hs _ _ hbk (l.map (Value.int .u64)) (by rw [List.length_map, hl]; exact (Nat.min_eq_left hn).symm) ?_ (by simp; omega) (ints_oneCell _ _) ?_
    · intro j v hj
      rw [List.getElem?_map] at hj
      by_cases hjl : j < l.length
      · rw [List.getElem?_eq_getElem hjl] at hj
        simp at hj
        subst hj
        rw [← hc j hjl]
        unfold Addr.add
        by_cases hj0 : j = 0
        · subst hj0; simp
        · rw [if_neg hj0]
      · rw [List.getElem?_eq_none (by omega)] at hj
        simp at hj
    · rw [List.length_map, hl]
      refine hK _ ?_ ⟨rfl, rfl, rfl, by simp [World.setRow], fun k _ hne => setRow_other w g k _ (fun e => hne (by rw [e]))⟩
      unfold Bk
      rw [setRow_heap w g _ _ _ _ hbk]
      simp [splice, List.map_take, List.map_drop, hl]

theorem grow_below {B g : Nat} {w0 w w' : World} (hb : Below B w0 w) (hBw : B ≤ w.heap.size) (hg : w.grownBy w' (some g)) (hB : B ≤ g) : Below B w0 w' :=
  hb.grown hg hBw (fun k hk => by injection hk with hk; omega)
theorem splice_all {L l : List Int} (h : l.length = L.length) : splice L 0 l = l := by simp [splice, h]

/-- What a function hands back: a slice that reads as the number N; of what was there nothing has turned. -/
def Out (w : World) (N : Nat) (e : Ending) (w' : World) : Prop := ∃ A n c, e = .returned (.slice A n c) ∧ Rd w' w'.heap.size A n c (dg Wd N) ∧ Below w.heap.size w w'

/-- What Norm hands back: nil, or a block of its own. -/
def NormPost (w : World) (L : List Int) (n : Nat) (e : Ending) (w' : World) : Prop :=
  Below w.heap.size w w' ∧ ((L = [] ∧ e = .returned (.slice none 0 0)) ∨
      (0 < L.length ∧ L.length ≤ n ∧ e = .returned (.slice (some ⟨w.heap.size, 0, none⟩) L.length L.length) ∧ Bk w' w.heap.size L))

set_option maxHeartbeats 400000 in
theorem Norm_own (A : Option Addr) (n c : Nat) (l : List Int) (w : World) (B : Nat) (h : Rd w B A n c l) (hBw : B ≤ w.heap.size) :
    Calls Tryd.prog 71 #[.slice A n c] w (NormPost w (dg Wd (vl Wd l)) n) := by
  have hln : (dg Wd (vl Wd l)).length ≤ n := by
    have := vl_lt h.lim
    rw [h.len] at this
    exact dg_len_le Wd2 this
  generalize hN : dg Wd (vl Wd l) = L at *
  have HN := Lib.hid hN; clear hN
  go_enter Tryd.func71, Tryd.ntmps71
  go_wp2_with fail
  refine (trim_any _ _ _ _ _ B h).mono ?_
  rintro e w' ⟨A', n', c', rfl, hrd, rfl⟩
  rw [HN.out] at hrd
  have hl := hrd.len
  have hbig := hrd.big
  have hcap := hrd.cap
  have HL := Lib.hid hl; clear hl
  rcases Nat.eq_zero_or_pos n' with h0 | h0
  · subst h0
    have hL : L = [] := List.eq_nil_of_length_eq_zero HL.out
    subst hL
    go_wp2
    go_ret
    exact ⟨Below.refl _ _, .inl ⟨rfl, rfl⟩⟩
  · have h0' : ((n' : Int) == 0) = false := by simp; omega
    go_wp2_with (first
      | (at_make; refine wp_make64 rfl _ _ rfl n' _ _ rfl rfl rfl rfl (by omega) ?_; intro w1 hbk1 hb1; have hrd1 := hrd.below (hb1.mono hBw))
      | ((with_reducible refine wp_copy64 rfl (.tmp 13) (.tmp 14) rfl w.heap.size 0 n' n' A' n' c' rfl rfl _ _ hbk1 B hrd1 (Nat.le_refl _) (by simp) ?_); intro w2 hbk2 hg2))
    have hb2 := grow_below hb1 hb1.size hg2 (Nat.le_refl _)
    rw [splice_all (by simpa using HL.out)] at hbk2
    go_ret
    refine ⟨hb2, .inr ⟨by rw [HL.out]; exact h0, hln, ?_, hbk2⟩⟩
    rw [HL.out]; rfl
theorem Norm_any (A : Option Addr) (n c : Nat) (l : List Int) (w : World) (B : Nat) (h : Rd w B A n c l) (hBw : B ≤ w.heap.size) :
    Calls Tryd.prog 71 #[.slice A n c] w (Out w (vl Wd l)) := by
  have hn : n ≤ 17592186044416 := h.big
  refine (Norm_own A n c l w B h hBw).mono ?_
  rintro e w' ⟨hb, ⟨h1, rfl⟩ | ⟨h1, h2, rfl, hbk⟩⟩
  · exact ⟨_, _, _, rfl, by rw [h1]; exact Rd.nil, hb⟩
  · refine ⟨_, _, _, rfl, ?_, hb⟩
    have := hbk.rd (B := w'.heap.size) (off := 0) (n := (dg Wd (vl Wd l)).length) (c := (dg Wd (vl Wd l)).length) hbk.lt (by simp) (Nat.le_refl _) (by omega) (Lim_dg Wd2 _)
    simpa using this
end Go.Proofs.YtcoidcbbdibnaaaDoor
