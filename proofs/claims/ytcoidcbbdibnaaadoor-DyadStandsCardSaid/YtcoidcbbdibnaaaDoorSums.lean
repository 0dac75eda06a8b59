/-
  Add, Sub, Mul.
-/
import Derived.Test.YtcoidcbbdibnaaaDoorProd
import Derived.StillTailTactics
namespace Go.Proofs.YtcoidcbbdibnaaaDoor
open Go.RowKit
set_option linter.unusedVariables false

theorem Bk.whole {w : World} {g : Nat} {l : List Int} (h : Bk w g l) {B n c : Nat} (hB : g < B) (hn : l.length = n) (hc : n ≤ c) (hb : c ≤ 17592186044416) (hl : Lim Wd l) : Rd w B (some ⟨g, 0, none⟩) n c l := by
  have := h.rd (B := B) (off := 0) (n := n) (c := c) hB (by omega) hc hb hl
  subst hn
  simpa using this
theorem splice_zeros {l : List Int} {n m : Nat} (hl : l.length = n) (h : n ≤ m) : splice (List.replicate m 0) 0 l = l ++ List.replicate (m - n) 0 := by simp [splice, hl]
theorem vl_zeros_top (b : Nat) (l : List Int) (k : Nat) : vl b (l ++ List.replicate k 0) = vl b l := by rw [vl_append, vl_replicate]; simp
theorem Wd0 : 0 < Wd := Nat.lt_of_lt_of_le (by omega) Wd2
theorem Lim_zeros_top {l : List Int} (h : Lim Wd l) (k : Nat) : Lim Wd (l ++ List.replicate k 0) := Lim_append.2 ⟨h, Lim_replicate Wd0 k⟩

theorem add_end {W' : List Int} {c : Int} {N M m : Nat} (hc : Cr c) (h : vl Wd W' + Wd ^ (m + 1) * c.toNat = N + M) (hN : N < Wd ^ m) (hM : M < Wd ^ m) : vl Wd W' = N + M := by
  rcases hc with rfl | rfl
  · rw [show (0 : Int).toNat = 0 from rfl, Nat.mul_zero, Nat.add_zero] at h
    exact h
  · exfalso
    rw [Nat.pow_succ] at h
    have h2 : Wd ^ m * 2 ≤ Wd ^ m * Wd := Nat.mul_le_mul_left _ Wd2
    have h3 : (1 : Int).toNat = 1 := rfl
    rw [h3, Nat.mul_one] at h
    generalize Wd ^ m * Wd = r at *
    generalize Wd ^ m = q at *
    omega

theorem dg_lt {b : Nat} (hb : 2 ≤ b) {N n : Nat} (h : (dg b N).length ≤ n) : N < b ^ n := by
  have := vl_lt (Lim_dg hb N)
  rw [vl_dg hb] at this
  exact Nat.lt_of_lt_of_le this (Nat.pow_le_pow_right (by omega) h)

set_option maxHeartbeats 1000000 in
theorem Add_any (A A2 : Option Addr) (n c n2 c2 : Nat) (l m : List Int) (w : World) (h : Rd w w.heap.size A n c l) (h2 : Rd w w.heap.size A2 n2 c2 m) (hn : n ≤ 1099511627776) (hn2 : n2 ≤ 1099511627776) :
    Calls Tryd.prog 79 #[.slice A n c, .slice A2 n2 c2] w (Out w (vl Wd l + vl Wd m)) := by
  have hNn := dg_len_le Wd2 (h.len ▸ vl_lt h.lim : vl Wd l < Wd ^ n)
  have hMn := dg_len_le Wd2 (h2.len ▸ vl_lt h2.lim : vl Wd m < Wd ^ n2)
  generalize hN : vl Wd l = N at *
  generalize hM : vl Wd m = M at *
  have HN := Lib.hid hN; clear hN
  have HM := Lib.hid hM; clear hM
  go_enter Tryd.func79, Tryd.ntmps79
  go_wp2_with fail
  refine (trim_any _ _ _ _ _ _ h).mono ?_
  rintro e w' ⟨A', n', c', rfl, hrd, rfl⟩
  go_wp2_with fail
  refine (trim_any _ _ _ _ _ _ h2).mono ?_
  rintro e w' ⟨A2', n2', c2', rfl, hrd2, rfl⟩
  rw [HN.out] at hrd
  rw [HM.out] at hrd2
  clear h h2
  have H := Lib.hid hrd.len
  have H2 := Lib.hid hrd2.len
  have hs1 : n' ≤ 1099511627776 := by have := H.out; omega
  have hs2 : n2' ≤ 1099511627776 := by have := H2.out; omega
  clear hNn hMn hn hn2
  by_cases hlt : n' < n2'
  · go_wp2_with (first
      | (at_make; refine wp_make64 rfl _ _ rfl (n2' + 1) _ _ rfl rfl (by simp) (by simp) (by omega) ?_; intro w1 hbk1 hb1; have hrd1 := hrd.below hb1; have hrd21 := hrd2.below hb1)
      | ((with_reducible refine wp_copy64 rfl (.tmp 21) (.tmp 22) rfl w.heap.size 0 (n2' + 1) (n2' + 1) A2' n2' c2' rfl rfl _ _ hbk1 _ hrd21 (by omega) (by simp) ?_); intro w2 hbk2 hg2))
    rw [splice_zeros H2.out (by omega), show n2' + 1 - n2' = 1 by omega] at hbk2
    have hb2 := grow_below hb1 hb1.size hg2 (Nat.le_refl _)
    have hrd2' := hrd1.below (grow_below (Below.refl _ _) hb1.size hg2 (Nat.le_refl _))
    refine (addTo_any w.heap.size 0 (n2' + 1) (n2' + 1) A' n' c' [] _ [] _ _ _ rfl (by simpa using H2.out) (Lim_zeros_top hrd2.lim 1) (by omega) (by simpa using hbk2) hrd2' (Nat.le_refl _) (by omega)).mono ?_
    rintro e w3 ⟨W', cc, rfl, q1, q2, q3, q4, q5, q6⟩
    have hb3 := grow_below hb2 hb2.size q6 (Nat.le_refl _)
    have hlen : W'.length = n2' + 1 := by rw [q1]; simpa using H2.out
    rw [vl_zeros_top, vl_dg Wd2, vl_dg Wd2, ← q1, hlen] at q4
    have hval := add_end q3 q4 (dg_lt Wd2 (Nat.le_of_eq H2.out)) (dg_lt Wd2 (by have := H.out; omega))
    simp only [List.nil_append, List.append_nil] at q5
    have hw3 := q5.whole (B := w3.heap.size) (n := n2' + 1) (c := n2' + 1) q5.lt hlen (Nat.le_refl _) (by omega) q2
    have HV := Lib.hid hval
    clear hval q4 q1 q3 hlen
    go_wp2_with fail
    refine (trim_any _ _ _ _ _ _ hw3).mono ?_
    rintro e w' ⟨A5, n5, c5, rfl, hrd5, rfl⟩
    go_wp2
    go_ret
    exact ⟨_, _, _, rfl, by rw [HV.out, Nat.add_comm] at hrd5; exact hrd5, hb3⟩
  · go_wp2_with (first
      | (at_make; refine wp_make64 rfl _ _ rfl (n' + 1) _ _ rfl rfl (by simp) (by simp) (by omega) ?_; intro w1 hbk1 hb1; have hrd1 := hrd2.below hb1; have hrd21 := hrd.below hb1)
      | ((with_reducible refine wp_copy64 rfl (.tmp 21) (.tmp 22) rfl w.heap.size 0 (n' + 1) (n' + 1) A' n' c' rfl rfl _ _ hbk1 _ hrd21 (by omega) (by simp) ?_); intro w2 hbk2 hg2))
    rw [splice_zeros H.out (by omega), show n' + 1 - n' = 1 by omega] at hbk2
    have hb2 := grow_below hb1 hb1.size hg2 (Nat.le_refl _)
    have hrd2' := hrd1.below (grow_below (Below.refl _ _) hb1.size hg2 (Nat.le_refl _))
    refine (addTo_any w.heap.size 0 (n' + 1) (n' + 1) A2' n2' c2' [] _ [] _ _ _ rfl (by simpa using H.out) (Lim_zeros_top hrd.lim 1) (by omega) (by simpa using hbk2) hrd2' (Nat.le_refl _) (by omega)).mono ?_
    rintro e w3 ⟨W', cc, rfl, q1, q2, q3, q4, q5, q6⟩
    have hb3 := grow_below hb2 hb2.size q6 (Nat.le_refl _)
    have hlen : W'.length = n' + 1 := by rw [q1]; simpa using H.out
    rw [vl_zeros_top, vl_dg Wd2, vl_dg Wd2, ← q1, hlen] at q4
    have hval := add_end q3 q4 (dg_lt Wd2 (Nat.le_of_eq H.out)) (dg_lt Wd2 (by have := H2.out; omega))
    simp only [List.nil_append, List.append_nil] at q5
    have hw3 := q5.whole (B := w3.heap.size) (n := n' + 1) (c := n' + 1) q5.lt hlen (Nat.le_refl _) (by omega) q2
    have HV := Lib.hid hval
    clear hval q4 q1 q3 hlen
    go_wp2_with fail
    refine (trim_any _ _ _ _ _ _ hw3).mono ?_
    rintro e w' ⟨A5, n5, c5, rfl, hrd5, rfl⟩
    go_wp2
    go_ret
    exact ⟨_, _, _, rfl, by rw [HV.out] at hrd5; exact hrd5, hb3⟩

set_option maxHeartbeats 1000000 in
theorem Sub_less (A A2 : Option Addr) (n c n2 c2 : Nat) (l m : List Int) (w : World) (h : Rd w w.heap.size A n c l) (h2 : Rd w w.heap.size A2 n2 c2 m) (hn : n ≤ 1099511627776) (hlt : vl Wd l < vl Wd m) :
    Calls Tryd.prog 80 #[.slice A n c, .slice A2 n2 c2] w fun e w' => e = .returned (.tuple #[.slice none 0 0, .bool false]) ∧ Quiet w w' := by
  have hc : cmpI (vl Wd l) (vl Wd m) = -1 := by simp [cmpI, hlt]
  have HC := Lib.hid hc; clear hc
  go_enter Tryd.func80, Tryd.ntmps80
  go_wp2_with fail
  refine (Cmp_any _ _ _ _ _ _ _ _ _ _ h h2).mono ?_
  rintro e w1 ⟨rfl, hq⟩
  rw [HC.out]
  go_wp2
  go_ret2
  exact ⟨rfl, hq⟩

/-- What two results hold: a slice that reads as the number N, and true. -/
def Out2 (w : World) (N : Nat) (e : Ending) (w' : World) : Prop := ∃ A n c, e = .returned (.tuple #[.slice A n c, .bool true]) ∧ Rd w' w'.heap.size A n c (dg Wd N) ∧ Below w.heap.size w w'

set_option maxHeartbeats 400000 in
theorem subFrom_nil (A A2 : Option Addr) (c c2 : Nat) (w : World) :
    Calls Tryd.prog 101 #[.slice A 0 c, .slice A2 0 c2] w fun e w' => e = .returned (.tuple #[]) ∧ w = w' := by
  go_enter Tryd.func101, Tryd.ntmps101
  go_wp2
  refine wp_loop_rounds 1 ?_
  rw [rounds_succ]
  go_wp2
  refine wp_loop_rounds 1 ?_
  rw [rounds_succ]
  go_wp2
  go_end0
  exact ⟨rfl, rfl⟩

set_option maxHeartbeats 1000000 in
theorem Sub_any (A A2 : Option Addr) (n c n2 c2 : Nat) (l m : List Int) (w : World) (h : Rd w w.heap.size A n c l) (h2 : Rd w w.heap.size A2 n2 c2 m) (hn : n ≤ 1099511627776) (hle : vl Wd m ≤ vl Wd l) :
    Calls Tryd.prog 80 #[.slice A n c, .slice A2 n2 c2] w (Out2 w (vl Wd l - vl Wd m)) := by
  have hc : 0 ≤ cmpI (vl Wd l) (vl Wd m) := by unfold cmpI; split <;> (try split) <;> omega
  have hc' : decide (cmpI (vl Wd l) (vl Wd m) < 0) = false := by simp; omega
  generalize hcm : cmpI (vl Wd l) (vl Wd m) = cm at *
  have HC := Lib.hid hcm; clear hcm
  have hmB := h2.lim
  generalize hN : vl Wd l = N at *
  have HN := Lib.hid hN; clear hN
  generalize hM : vl Wd m = M at *
  have HM := Lib.hid hM; clear hM
  go_enter Tryd.func80, Tryd.ntmps80
  go_wp2_with fail
  refine (Cmp_any _ _ _ _ _ _ _ _ _ _ h h2).mono ?_
  rintro e w1 ⟨rfl, hq⟩
  rw [HN.out, HM.out, HC.out]
  have hsz := hq.size
  have h1 := h.below (hq.below (B := w.heap.size))
  have h21 := h2.below (hq.below (B := w.heap.size))
  rw [← hsz] at h1 h21
  have hbq := hq.below (B := w.heap.size)
  have HS := Lib.hid hsz; clear hsz h h2 hq
  go_wp2_with fail
  refine (Norm_own _ _ _ _ _ _ h1 (Nat.le_refl _)).mono ?_
  rintro e w2 ⟨hb2, hpost⟩
  rw [HN.out] at hpost
  have h22 := h21.below hb2
  rcases hpost with ⟨p1, rfl⟩ | ⟨p1, p2, rfl, p4⟩
  · have hN0 : N = 0 := (dg_eq_nil Wd2).1 p1
    have hM0 : M = 0 := by omega
    subst hN0 hM0
    go_wp2_with fail
    refine (trim_any _ _ _ _ _ _ h22).mono ?_
    rintro e w' ⟨A3, n3, c3, rfl, hrd3, rfl⟩
    rw [HM.out, dg_zero] at hrd3
    have hl3 : 0 = n3 := hrd3.len
    subst hl3
    go_wp2_with fail
    refine (subFrom_nil _ _ _ _ _).mono ?_
    rintro e w' ⟨rfl, rfl⟩
    go_wp2_with fail
    refine (trim_any _ _ _ _ _ w2.heap.size Rd.nil).mono ?_
    rintro e w' ⟨A5, n5, c5, rfl, hrd5, rfl⟩
    go_wp2
    go_ret2
    exact ⟨_, _, _, rfl, hrd5, hbq.trans (by rw [← HS.out]; exact hb2)⟩
  · go_wp2_with fail
    refine (trim_any _ _ _ _ _ _ h22).mono ?_
    rintro e w' ⟨A3, n3, c3, rfl, hrd3, rfl⟩
    rw [HM.out] at hrd3
    have hl3 := hrd3.len
    have hmono := dg_len_mono Wd2 hle
    have hle3 : n3 ≤ (dg Wd N).length := by omega
    have hlen : (dg Wd N).length ≤ n := p2
    clear hl3 hmono
    go_wp2_with fail
    refine (subFrom_any w1.heap.size 0 _ _ A3 n3 c3 [] (dg Wd N) [] (dg Wd M) _ _ rfl rfl (Lim_dg Wd2 _) (by omega) (by simpa using p4) hrd3 (Nat.le_refl _) hle3 (by rw [vl_dg Wd2, vl_dg Wd2]; exact hle)).mono ?_
    rintro e w3 ⟨W', rfl, q1, q2, q4, q5, q6⟩
    rw [vl_dg Wd2, vl_dg Wd2] at q4
    simp only [List.nil_append, List.append_nil] at q5
    have hb3 := grow_below hb2 hb2.size q6 (Nat.le_refl _)
    have hw3 := q5.whole (B := w3.heap.size) (n := (dg Wd N).length) (c := (dg Wd N).length) q5.lt q1 (Nat.le_refl _) (by omega) q2
    have HV := Lib.hid (show vl Wd W' = N - M by omega)
    clear q4 q1
    go_wp2_with fail
    refine (trim_any _ _ _ _ _ _ hw3).mono ?_
    rintro e w' ⟨A5, n5, c5, rfl, hrd5, rfl⟩
    go_wp2
    go_ret2
    exact ⟨_, _, _, rfl, by rw [HV.out] at hrd5; exact hrd5, hbq.trans (by rw [← HS.out]; exact hb3)⟩

theorem zero_at {l : List Int} (h : Lim Wd l) {j : Nat} (hj : j < l.length) (hv : vl Wd l < Wd ^ j) : l[j] = 0 := by
  have h1 := vl_split Wd l j (by omega)
  rw [vl_drop_step Wd l j hj] at h1
  have h2 := h.get hj
  rcases Nat.eq_zero_or_pos l[j].toNat with h0 | h0
  · omega
  · exfalso
    have : Wd ^ j * 1 ≤ Wd ^ j * (l[j].toNat + Wd * vl Wd (l.drop (j + 1))) := Nat.mul_le_mul_left _ (by omega)
    rw [Nat.mul_one] at this
    generalize Wd ^ j * (l[j].toNat + Wd * vl Wd (l.drop (j + 1))) = r at *
    omega

/-- The product under way: its limbs R; k limbs of lb are done. -/
def MRel (w : World) (g : Nat) (la lb : List Int) (k : Nat) (wr : World) : Prop :=
  ∃ R, R.length = la.length + lb.length ∧ Lim Wd R ∧ vl Wd R = vl Wd la * vl Wd (lb.take k) ∧ Bk wr g R ∧ Below g w wr

theorem cut3 (R : List Int) (i j : Nat) : R = R.take i ++ ((R.drop i).take j ++ R.drop (i + j)) := by
  have h1 := List.take_append_drop j (R.drop i)
  rw [List.drop_drop] at h1
  rw [h1, List.take_append_drop]
theorem vl3 (P W S : List Int) : vl Wd (P ++ (W ++ S)) = vl Wd P + Wd ^ P.length * (vl Wd W + Wd ^ W.length * vl Wd S) := by rw [vl_append, vl_append]
theorem MRel.next {la lb R W' : List Int} {k : Nat} (hk : k < lb.length) (hlen : R.length = la.length + lb.length) (hv : vl Wd R = vl Wd la * vl Wd (lb.take k)) (hW : W'.length = ((R.drop k).take (la.length + 1)).length)
    (hW' : vl Wd W' = vl Wd ((R.drop k).take (la.length + 1)) + lb[k].toNat * vl Wd la) :
    vl Wd (R.take k ++ (W' ++ R.drop (k + (la.length + 1)))) = vl Wd la * vl Wd (lb.take (k + 1)) := by
  have e1 := congrArg (vl Wd) (cut3 R k (la.length + 1))
  rw [vl3] at e1
  rw [vl3, hW, hW']
  have hPk : (R.take k).length = k := by simp; omega
  rw [hPk] at e1 ⊢
  rw [vl_take_succ Wd lb k hk, Nat.mul_add (vl Wd la), ← hv, e1]
  generalize vl Wd ((R.drop k).take (la.length + 1)) = a
  generalize Wd ^ ((R.drop k).take (la.length + 1)).length * vl Wd (R.drop (k + (la.length + 1))) = b
  generalize vl Wd (R.take k) = p
  have e2 : Wd ^ k * (a + lb[k].toNat * vl Wd la + b) = Wd ^ k * (a + b) + Wd ^ k * (lb[k].toNat * vl Wd la) := by rw [← Nat.mul_add]; congr 1; omega
  rw [e2]
  have e3 : Wd ^ k * (lb[k].toNat * vl Wd la) = vl Wd la * (Wd ^ k * lb[k].toNat) := by rw [Nat.mul_comm (vl Wd la), Nat.mul_assoc]
  rw [e3, Nat.add_assoc]

set_option maxHeartbeats 1000000 in
/-- The product's loop and end, the longer factor first. -/
theorem Mul_any (A A2 : Option Addr) (n c n2 c2 : Nat) (l m : List Int) (w : World) (h : Rd w w.heap.size A n c l) (h2 : Rd w w.heap.size A2 n2 c2 m) (hn : n ≤ 1099511627776) (hn2 : n2 ≤ 1099511627776) :
    Calls Tryd.prog 86 #[.slice A n c, .slice A2 n2 c2] w (Out w (vl Wd l * vl Wd m)) := by
  have hNn := dg_len_le Wd2 (h.len ▸ vl_lt h.lim : vl Wd l < Wd ^ n)
  have hMn := dg_len_le Wd2 (h2.len ▸ vl_lt h2.lim : vl Wd m < Wd ^ n2)
  generalize hN : vl Wd l = N at *
  generalize hM : vl Wd m = M at *
  have HN := Lib.hid hN; clear hN
  have HM := Lib.hid hM; clear hM
  go_enter Tryd.func86, Tryd.ntmps86
  go_wp2_with fail
  refine (trim_any _ _ _ _ _ _ h).mono ?_
  rintro e w' ⟨A', n', c', rfl, hrd, rfl⟩
  go_wp2_with fail
  refine (trim_any _ _ _ _ _ _ h2).mono ?_
  rintro e w' ⟨A2', n2', c2', rfl, hrd2, rfl⟩
  rw [HN.out] at hrd
  rw [HM.out] at hrd2
  clear h h2
  have H := Lib.hid hrd.len
  have H2 := Lib.hid hrd2.len
  have hs1 : n' ≤ 1099511627776 := by have := H.out; omega
  have hs2 : n2' ≤ 1099511627776 := by have := H2.out; omega
  have hcap := hrd.cap
  have hcap2 := hrd2.cap
  have hbig := hrd.big
  have hbig2 := hrd2.big
  clear hNn hMn hn hn2
  by_cases hlt : n' < n2'
  · by_cases h0 : n' = 0
    · subst h0
      go_wp2
      go_ret
      have : N = 0 := (dg_eq_nil Wd2).1 (List.eq_nil_of_length_eq_zero H.out)
      subst this
      exact ⟨_, _, _, rfl, by rw [Nat.zero_mul, dg_zero]; exact Rd.nil, Below.refl _ _⟩
    · have hb0 : ((n' : Int) == 0) = false := by simp; omega
      obtain ⟨T, hT⟩ : ∃ T, T = n2' + n' := ⟨_, rfl⟩
      have HT := Lib.hid hT; clear hT
      go_wp2_with (at_make; refine wp_make64 rfl _ _ rfl T _ _ rfl rfl (by have := HT.out; omega) (by have := HT.out; omega) (by have := HT.out; omega) ?_; intro w1 hbk1 hb1)
      go_loopw [6, 7, 30] (fun _ _ i wr => ∃ k : Nat, k ≤ n' ∧ i = .int .i64 k ∧ MRel w w.heap.size (dg Wd M) (dg Wd N) k wr) (fun _ _ i _ => n' - (intOf i).toNat)
      case atStart => exact ⟨0, Nat.zero_le _, rfl, _, by simp [H2.out, H.out, HT.out], Lim_replicate Wd0 _, by rw [vl_replicate]; rfl, hbk1, hb1⟩
      case round =>
        obtain ⟨k, hk, rfl, R, r1, r2, r3, r4, r5⟩ := hrel
        have HR := Lib.hid r1; clear r1
        have HV := Lib.hid r3; clear r3
        by_cases hkm : k < n'
        · have hrdr := (hrd2.below r5)
          obtain ⟨b, of, rfl, hb, hc⟩ := (hrd.below r5).at_ (by omega)
          have hkl : k < (dg Wd N).length := by have := H.out; omega
          have hc1 := hc k hkl
          have hy : Lm (dg Wd N)[k] := (Lim_dg Wd2 N).get hkl
          clear hc hbk1
          generalize hye : (dg Wd N)[k] = y at hc1 hy
          have Hy := Lib.hid hye; clear hye
          obtain ⟨E, hE⟩ : ∃ E, E = k + n2' + 1 := ⟨_, rfl⟩
          have e1 : (k : Int) + n2' + 1 = E := by omega
          have hkE : k ≤ E := by omega
          have hET : E ≤ T := by have := HT.out; omega
          have hEk : ¬ E = k := by omega
          have HE := Lib.hid hE; clear hE
          go_wp2
          refine wp_region_still_tail 10 (by kernel_rfl) (by kernel_rfl) ?_
          change wpStill _ _ wr.drew (fun a' => wpList _ _ _ _ a' wr.drew) _ _
          have hd1 : wr.drew.cell? ⟨b, of + k, none⟩ = _ := hc1
          have r4' := r4.drew
          have r5' := r5.drew
          have hrdr' := hrd2.below r5'
          generalize wr.drew = w4 at *
          clear hc1 r4 r5 hrdr
          simp only [List.take_succ_cons, List.take_zero, List.drop_succ_cons, List.drop_zero]
          repeat still_step
          refine wpStill_nil ?_
          have hlk : (R.take k).length = k := by have := HR.out; have := H2.out; have := H.out; simp; omega
          have hlW : ((R.drop k).take (n2' + 1)).length = E - k := by have := HR.out; have := H2.out; have := H.out; have := HE.out; simp; omega
          have hlW2 : ((R.drop k).take (n2' + 1)).length = n2' + 1 := by have := HE.out; omega
          have htop : ((R.drop k).take (n2' + 1))[(dg Wd M).length]? = some 0 := by
            have hj : k + n2' < R.length := by have := HR.out; have := H2.out; have := H.out; omega
            rw [H2.out, List.getElem?_take_of_lt (by omega), List.getElem?_drop, List.getElem?_eq_getElem hj]
            congr 1
            refine zero_at r2 hj ?_
            rw [HV.out, vl_dg Wd2, Nat.add_comm, Nat.pow_add]
            have b1 : M < Wd ^ n2' := dg_lt Wd2 (Nat.le_of_eq H2.out)
            have b2 := vl_lt ((Lim_dg Wd2 N).take k)
            rw [List.length_take, Nat.min_eq_left (by omega)] at b2
            exact Nat.mul_lt_mul'' b1 b2
          have hR4 : Bk w4 w.heap.size (R.take k ++ ((R.drop k).take (n2' + 1) ++ R.drop (k + (n2' + 1)))) := by rw [← cut3]; exact r4'
          have HlW := Lib.hid hlW; have HlW2 := Lib.hid hlW2; have Hlk := Lib.hid hlk; have Htop := Lib.hid htop
          clear hlW hlW2 hlk htop
          go_wp2_with (go_at_call 109; refine (addProduct_any w.heap.size k (E - k) (E - k) A2' n2' c2' _ _ _ _ y w4 _ Hlk.out HlW.out ((r2.drop k).take _) (by omega) hR4 hrdr' (Nat.le_refl _) (by have := HE.out; omega) hy Htop.out).mono ?_; rintro e w5 ⟨W', rfl, q1, q2, q4, q5, q6⟩)
          have hb5 := grow_below r5' r5'.size q6 (Nat.le_refl _)
          go_roundw
          case rel =>
            refine ⟨k + 1, by omega, by go_num, _, ?_, Lim_append.2 ⟨r2.take k, Lim_append.2 ⟨q2, r2.drop _⟩⟩, ?_, q5, hb5⟩
            · have := HR.out; have := H2.out; have := H.out; have := HlW2.out; rw [List.length_append, List.length_append, q1]; simp; omega
            · have hx := MRel.next (R := R) (W' := W') hkl HR.out HV.out (by rw [H2.out]; exact q1) (by rw [H2.out, Hy.out]; exact q4)
              rw [H2.out] at hx
              exact hx
          case measure => simp [intOf]; omega
        · obtain rfl : n' = k := by omega
          have hval : vl Wd R = N * M := by rw [HV.out, List.take_of_length_le (Nat.le_of_eq H.out), vl_dg Wd2, vl_dg Wd2, Nat.mul_comm]
          have HV2 := Lib.hid hval; clear hval
          have hw3 := r4.whole (B := wr.heap.size) (n := T) (c := T) r4.lt (by rw [HR.out, H2.out, H.out, HT.out]) (Nat.le_refl _) (by have := HT.out; omega) r2
          go_wp2_with fail
          refine (trim_any _ _ _ _ _ _ hw3).mono ?_
          rintro e w' ⟨A5, n5, c5, rfl, hrd5, rfl⟩
          go_wp2
          go_ret
          exact ⟨_, _, _, rfl, by rw [HV2.out] at hrd5; exact hrd5, r5⟩
  · by_cases h0 : n2' = 0
    · subst h0
      go_wp2
      go_ret
      have : M = 0 := (dg_eq_nil Wd2).1 (List.eq_nil_of_length_eq_zero H2.out)
      subst this
      exact ⟨_, _, _, rfl, by rw [Nat.mul_zero, dg_zero]; exact Rd.nil, Below.refl _ _⟩
    · have hb0 : ((n2' : Int) == 0) = false := by simp; omega
      obtain ⟨T, hT⟩ : ∃ T, T = n' + n2' := ⟨_, rfl⟩
      have HT := Lib.hid hT; clear hT
      go_wp2_with (at_make; refine wp_make64 rfl _ _ rfl T _ _ rfl rfl (by have := HT.out; omega) (by have := HT.out; omega) (by have := HT.out; omega) ?_; intro w1 hbk1 hb1)
      go_loopw [6, 7, 30] (fun _ _ i wr => ∃ k : Nat, k ≤ n2' ∧ i = .int .i64 k ∧ MRel w w.heap.size (dg Wd N) (dg Wd M) k wr) (fun _ _ i _ => n2' - (intOf i).toNat)
      case atStart => exact ⟨0, Nat.zero_le _, rfl, _, by simp [H.out, H2.out, HT.out], Lim_replicate Wd0 _, by rw [vl_replicate]; rfl, hbk1, hb1⟩
      case round =>
        obtain ⟨k, hk, rfl, R, r1, r2, r3, r4, r5⟩ := hrel
        have HR := Lib.hid r1; clear r1
        have HV := Lib.hid r3; clear r3
        by_cases hkm : k < n2'
        · have hrdr := (hrd.below r5)
          obtain ⟨b, of, rfl, hb, hc⟩ := (hrd2.below r5).at_ (by omega)
          have hkl : k < (dg Wd M).length := by have := H2.out; omega
          have hc1 := hc k hkl
          have hy : Lm (dg Wd M)[k] := (Lim_dg Wd2 M).get hkl
          clear hc hbk1
          generalize hye : (dg Wd M)[k] = y at hc1 hy
          have Hy := Lib.hid hye; clear hye
          obtain ⟨E, hE⟩ : ∃ E, E = k + n' + 1 := ⟨_, rfl⟩
          have e1 : (k : Int) + n' + 1 = E := by omega
          have hkE : k ≤ E := by omega
          have hET : E ≤ T := by have := HT.out; omega
          have hEk : ¬ E = k := by omega
          have HE := Lib.hid hE; clear hE
          go_wp2
          refine wp_region_still_tail 10 (by kernel_rfl) (by kernel_rfl) ?_
          change wpStill _ _ wr.drew (fun a' => wpList _ _ _ _ a' wr.drew) _ _
          have hd1 : wr.drew.cell? ⟨b, of + k, none⟩ = _ := hc1
          have r4' := r4.drew
          have r5' := r5.drew
          have hrdr' := hrd.below r5'
          generalize wr.drew = w4 at *
          clear hc1 r4 r5 hrdr
          simp only [List.take_succ_cons, List.take_zero, List.drop_succ_cons, List.drop_zero]
          repeat still_step
          refine wpStill_nil ?_
          have hlk : (R.take k).length = k := by have := HR.out; have := H.out; have := H2.out; simp; omega
          have hlW : ((R.drop k).take (n' + 1)).length = E - k := by have := HR.out; have := H.out; have := H2.out; have := HE.out; simp; omega
          have hlW2 : ((R.drop k).take (n' + 1)).length = n' + 1 := by have := HE.out; omega
          have htop : ((R.drop k).take (n' + 1))[(dg Wd N).length]? = some 0 := by
            have hj : k + n' < R.length := by have := HR.out; have := H.out; have := H2.out; omega
            rw [H.out, List.getElem?_take_of_lt (by omega), List.getElem?_drop, List.getElem?_eq_getElem hj]
            congr 1
            refine zero_at r2 hj ?_
            rw [HV.out, vl_dg Wd2, Nat.add_comm, Nat.pow_add]
            have b1 : N < Wd ^ n' := dg_lt Wd2 (Nat.le_of_eq H.out)
            have b2 := vl_lt ((Lim_dg Wd2 M).take k)
            rw [List.length_take, Nat.min_eq_left (by omega)] at b2
            exact Nat.mul_lt_mul'' b1 b2
          have hR4 : Bk w4 w.heap.size (R.take k ++ ((R.drop k).take (n' + 1) ++ R.drop (k + (n' + 1)))) := by rw [← cut3]; exact r4'
          have HlW := Lib.hid hlW; have HlW2 := Lib.hid hlW2; have Hlk := Lib.hid hlk; have Htop := Lib.hid htop
          clear hlW hlW2 hlk htop
          go_wp2_with (go_at_call 109; refine (addProduct_any w.heap.size k (E - k) (E - k) A' n' c' _ _ _ _ y w4 _ Hlk.out HlW.out ((r2.drop k).take _) (by omega) hR4 hrdr' (Nat.le_refl _) (by have := HE.out; omega) hy Htop.out).mono ?_; rintro e w5 ⟨W', rfl, q1, q2, q4, q5, q6⟩)
          have hb5 := grow_below r5' r5'.size q6 (Nat.le_refl _)
          go_roundw
          case rel =>
            refine ⟨k + 1, by omega, by go_num, _, ?_, Lim_append.2 ⟨r2.take k, Lim_append.2 ⟨q2, r2.drop _⟩⟩, ?_, q5, hb5⟩
            · have := HR.out; have := H.out; have := H2.out; have := HlW2.out; rw [List.length_append, List.length_append, q1]; simp; omega
            · have hx := MRel.next (R := R) (W' := W') hkl HR.out HV.out (by rw [H.out]; exact q1) (by rw [H.out, Hy.out]; exact q4)
              rw [H.out] at hx
              exact hx
          case measure => simp [intOf]; omega
        · obtain rfl : n2' = k := by omega
          have hval : vl Wd R = N * M := by rw [HV.out, List.take_of_length_le (Nat.le_of_eq H2.out), vl_dg Wd2, vl_dg Wd2]
          have HV2 := Lib.hid hval; clear hval
          have hw3 := r4.whole (B := wr.heap.size) (n := T) (c := T) r4.lt (by rw [HR.out, H.out, H2.out, HT.out]) (Nat.le_refl _) (by have := HT.out; omega) r2
          go_wp2_with fail
          refine (trim_any _ _ _ _ _ _ hw3).mono ?_
          rintro e w' ⟨A5, n5, c5, rfl, hrd5, rfl⟩
          go_wp2
          go_ret
          exact ⟨_, _, _, rfl, by rw [HV2.out] at hrd5; exact hrd5, r5⟩
end Go.Proofs.YtcoidcbbdibnaaaDoor
