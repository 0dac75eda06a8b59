/-
  Words for memory: a slice of limbs that reads as a list; a block of limbs that is known whole.
-/
import Derived.Test.YtcoidcbbdibnaaaDoorLimb
import Derived.Laws.OwnMore
import Derived.Deep.Draws
import Derived.Laws.Rows
import Derived.Lib.Hide
namespace Go.Proofs.YtcoidcbbdibnaaaDoor
open Go.RowKit
set_option linter.unusedVariables false

/-- The slice '.slice A n c' reads as the limbs l, and its cells lie below block B. -/
def Rd (w : World) (B : Nat) (A : Option Addr) (n c : Nat) (l : List Int) : Prop :=
  l.length = n ∧ n ≤ c ∧ n ≤ 17592186044416 ∧ Lim Wd l ∧
    (0 < n → ∃ b off, A = some ⟨b, off, none⟩ ∧ b < B ∧ ∀ k (hk : k < l.length), w.cell? ⟨b, off + k, none⟩ = some (.int .u64 l[k]))

section
variable {w w' : World} {B B' n c : Nat} {A : Option Addr} {l : List Int}
theorem Rd.len (h : Rd w B A n c l) : l.length = n := h.1
theorem Rd.cap (h : Rd w B A n c l) : n ≤ c := h.2.1
theorem Rd.big (h : Rd w B A n c l) : n ≤ 17592186044416 := h.2.2.1
theorem Rd.lim (h : Rd w B A n c l) : Lim Wd l := h.2.2.2.1
theorem Rd.nil : Rd w B none 0 0 [] := ⟨rfl, Nat.le_refl _, by omega, Lim_nil _, fun h => absurd h (by omega)⟩
theorem Rd.at_ (h : Rd w B A n c l) (hn : 0 < n) : ∃ b off, A = some ⟨b, off, none⟩ ∧ b < B ∧ ∀ k (hk : k < l.length), w.cell? ⟨b, off + k, none⟩ = some (.int .u64 l[k]) := h.2.2.2.2 hn
theorem Rd.keep (h : Rd w B A n c l) (hk : ∀ p : Addr, p.block < B → w'.cell? p = w.cell? p) : Rd w' B A n c l :=
  ⟨h.1, h.2.1, h.2.2.1, h.2.2.2.1, fun hn => by
    obtain ⟨b, off, e, hb, hc⟩ := h.at_ hn
    exact ⟨b, off, e, hb, fun k hk' => (hk _ hb).trans (hc k hk')⟩⟩
theorem Rd.more (h : Rd w B A n c l) (hB : B ≤ B') : Rd w B' A n c l :=
  ⟨h.1, h.2.1, h.2.2.1, h.2.2.2.1, fun hn => by
    obtain ⟨b, off, e, hb, hc⟩ := h.at_ hn
    exact ⟨b, off, e, by omega, hc⟩⟩
theorem Rd.below (h : Rd w B A n c l) (hb : Below B w w') : Rd w' B A n c l := h.keep fun _ hp => hb.cell hp
theorem Rd.alloc (h : Rd w B A n c l) (hB : B ≤ w.heap.size) (o : Obj) : Rd (w.alloc o) B A n c l := h.keep fun p hp => World.cell?_alloc_lt w o p (by omega)
theorem Rd.grown (h : Rd w B A n c l) {g : Nat} (hg : w.grownBy w' (some g)) (hB : B ≤ w.heap.size) (hr : B ≤ g) : Rd w' B A n c l :=
  h.keep fun p hp => World.cell?_of_block (hg.block p.block (by omega) (fun e => by injection e with e; omega))
theorem Rd.take (h : Rd w B A n c l) {m : Nat} (hm : m ≤ n) : Rd w B A m c (l.take m) := by
  have h1 := h.len
  refine ⟨by simp; omega, Nat.le_trans hm h.cap, Nat.le_trans hm h.big, h.lim.take m, fun hn => ?_⟩
  obtain ⟨b, off, e, hb, hc⟩ := h.at_ (by omega)
  refine ⟨b, off, e, hb, fun k hk => ?_⟩
  rw [List.length_take] at hk
  rw [hc k (by omega), List.getElem_take]
theorem Rd.drop (h : Rd w B A n c l) {m : Nat} (hm : m < n) : ∃ b off, A = some ⟨b, off, none⟩ ∧ Rd w B (some ⟨b, off + m, none⟩) (n - m) (c - m) (l.drop m) := by
  have h1 := h.len
  have h2 := h.cap
  have h3 := h.big
  obtain ⟨b, off, e, hb, hc⟩ := h.at_ (by omega)
  refine ⟨b, off, e, by simp; omega, by omega, by omega, h.lim.drop m, fun hn => ⟨b, off + m, rfl, hb, fun k hk => ?_⟩⟩
  rw [List.length_drop] at hk
  rw [Nat.add_assoc, hc (m + k) (by omega), List.getElem_drop]
end

/-- Block g holds just the limbs l. -/
def Bk (w : World) (g : Nat) (l : List Int) : Prop := w.heap[g]? = some (.cells (l.map (Value.int .u64)).toArray 31 (0, 0))

section
variable {w w' : World} {g : Nat} {l : List Int}
theorem Bk.lt (h : Bk w g l) : g < w.heap.size := by
  rcases Nat.lt_or_ge g w.heap.size with hlt | hge
  · exact hlt
  · unfold Bk at h; rw [Array.getElem?_eq_none hge] at h; cases h
theorem Bk.cell (h : Bk w g l) (i : Nat) (hi : i < l.length) : w.cell? ⟨g, i, none⟩ = some (.int .u64 l[i]) := by
  rw [cell_of_row w g i _ 31 (0, 0) h]; simp [hi]
theorem Bk.frozen (h : Bk w g l) (i : Nat) : w.frozen? ⟨g, i, none⟩ = false := by
  unfold Bk at h
  simp [World.frozen?, h]
theorem Bk.new (w : World) (l : List Int) : Bk (w.alloc (.cells (l.map (Value.int .u64)).toArray 31)) w.heap.size l := heap_alloc_new w _
theorem Bk.alloc (h : Bk w g l) (o : Obj) : Bk (w.alloc o) g l := (Below.heap_alloc w o g h.lt).trans h
theorem Bk.set (h : Bk w g l) (i : Nat) (x : Int) : Bk (w.setCell ⟨g, i, none⟩ (.int .u64 x)) g (l.set i x) := by
  unfold Bk at h ⊢
  simp [World.setCell, Array.getElem?_modify, h, List.map_set]
theorem Bk.far (h : Bk w g l) {p : Addr} (hp : g ≠ p.block) (u : Value) : Bk (w.setCell p u) g l := (Below.heap_setCell w p u g hp).trans h
theorem Bk.below {B : Nat} (h : Bk w g l) (hb : Below B w w') (hg : g < B) : Bk w' g l := (hb.block g hg).trans h
theorem Bk.grown {row : Option Nat} (h : Bk w g l) (hb : w.grownBy w' row) (hg : some g ≠ row) : Bk w' g l := (hb.block g h.lt hg).trans h
/-- A block that is known reads as a slice, from anywhere in it. -/
theorem Bk.rd (h : Bk w g l) {B off n c : Nat} (hB : g < B) (hn : off + n ≤ l.length) (hc : n ≤ c) (hb : c ≤ 17592186044416) (hl : Lim Wd l) : Rd w B (some ⟨g, off, none⟩) n c ((l.drop off).take n) := by
  refine ⟨by simp; omega, hc, Nat.le_trans hc hb, (hl.drop off).take n, fun _ => ⟨g, off, rfl, hB, fun k hk => ?_⟩⟩
  rw [List.length_take, List.length_drop] at hk
  rw [h.cell _ (by omega), List.getElem_take, List.getElem_drop]
end

theorem grownBy_set (w : World) (g i : Nat) (u : Value) : w.grownBy (w.setCell ⟨g, i, none⟩ u) (some g) :=
  ⟨rfl, rfl, rfl, by simp [World.setCell], fun k _ hne => Below.heap_setCell w _ u k (fun e => hne (by rw [e]))⟩
theorem grownBy_trans {a b c : World} {r : Option Nat} (h : a.grownBy b r) (k : b.grownBy c r) : a.grownBy c r :=
  ⟨k.os.trans h.os, k.tape.trans h.tape, k.output.trans h.output, Nat.le_trans h.size k.size, fun i hi hne => (k.block i (Nat.lt_of_lt_of_le hi h.size) hne).trans (h.block i hi hne)⟩
theorem grownBy_drewN {a b : World} {r : Option Nat} (h : a.grownBy b r) (n : Nat) : a.grownBy (b.drewN n) r := ⟨h.os, h.tape, h.output, h.size, h.block⟩
theorem grownBy_drew {a b : World} {r : Option Nat} (h : a.grownBy b r) : a.grownBy b.drew r := ⟨h.os, h.tape, h.output, h.size, h.block⟩
theorem below_drewN {B : Nat} {a b : World} (h : Below B a b) (n : Nat) : Below B a (b.drewN n) := ⟨h.os, h.tape, h.output, h.size, h.block⟩

theorem trim_zeros {l : List Int} {n : Nat} (hl : l.length = n) {k : Nat} (hz : ∀ j (hj : j < l.length), k + 1 ≤ j → l[j] = 0) (hk : k < l.length) (h0 : l[k] = 0) : ∀ j (hj : j < l.length), k ≤ j → l[j] = 0 := fun j hj hkj => by
  rcases Nat.eq_or_lt_of_le hkj with h | h
  · subst h; exact h0
  · exact hz j hj h
theorem Rd.trimmed {w : World} {B n c : Nat} {A : Option Addr} {l : List Int} (h : Rd w B A n c l) {k : Nat} (hk : k ≤ n) (hz : ∀ j (hj : j < l.length), k ≤ j → l[j] = 0)
    (ht : ∀ hh : 0 < k, ∃ hj : k - 1 < l.length, l[k - 1] ≠ 0) : Rd w B A k c (dg Wd (vl Wd l)) := by
  rw [dg_take Wd2 h.lim (by have := h.len; omega) hz (fun hh => (ht hh).2)]
  exact h.take hk
theorem Rd.trimmed0 {w : World} {B n c : Nat} {A : Option Addr} {l : List Int} (h : Rd w B A n c l) (hz : ∀ j (hj : j < l.length), 0 ≤ j → l[j] = 0) : Rd w B none 0 0 (dg Wd (vl Wd l)) := by
  rw [dg_take Wd2 h.lim (Nat.zero_le _) hz (fun hh => absurd hh (by omega))]
  exact Rd.nil

set_option maxHeartbeats 400000 in
theorem trim_any (A : Option Addr) (n c : Nat) (l : List Int) (w : World) (B : Nat) (h : Rd w B A n c l) :
    Calls Tryd.prog 89 #[.slice A n c] w fun e w' => ∃ A' n' c', e = .returned (.slice A' n' c') ∧ Rd w B A' n' c' (dg Wd (vl Wd l)) ∧ w = w' := by
  have hcap := h.cap
  have hbig := h.big
  have H := Lib.hid h.len
  go_enter Tryd.func89, Tryd.ntmps89
  go_wp2
  go_loop [3] (fun i => ∃ k : Nat, k ≤ n ∧ i = .int .i64 k ∧ Hid (∀ j (hj : j < l.length), k ≤ j → l[j] = 0)) (fun i => (intOf i).toNat)
  case atStart => exact ⟨n, Nat.le_refl _, rfl, fun j hj hk => by have := H.out; omega⟩
  case round =>
    obtain ⟨k, hk, rfl, hz⟩ := hrel
    rcases k with _ | k
    · go_wp2
      go_ret
      exact ⟨_, _, _, rfl, h.trimmed0 hz.out, rfl⟩
    · obtain ⟨b, off, rfl, hb, hc⟩ := h.at_ (by omega)
      have hkl : k < l.length := by have := H.out; omega
      have hck := hc k hkl
      clear hc
      generalize hx : l[k] = x at hck
      have Hx := Lib.hid hx; clear hx
      have b0 : ((↑(k + 1) : Int) == 0) = false := by simp; omega
      go_wp2
      · have h0 : (x == 0) = true := by assumption
        have h1 : l[k] = 0 := Hx.out.trans (by simpa using h0)
        go_round
        case rel => exact ⟨k, by omega, rfl, trim_zeros H.out hz.out hkl h1⟩
        case measure => simp [intOf]
      · have h0 : (x == 0) = false := by assumption
        have h1 : l[k] ≠ 0 := fun e => by rw [Hx.out] at e; simp [e] at h0
        go_ret
        exact ⟨_, _, _, rfl, h.trimmed (k := k + 1) (by omega) hz.out (fun _ => ⟨hkl, h1⟩), rfl⟩
end Go.Proofs.YtcoidcbbdibnaaaDoor
