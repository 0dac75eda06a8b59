/-
  The document's answer: Shr.
-/
import Derived.Test.YtcoidcbbdibnaaaDoorTimes
namespace Go.Proofs.YtcoidcbbdibnaaaDoor
open Go.RowKit
set_option linter.unusedVariables false

theorem Ow.set {w : World} {base g m cap : Nat} {l : List Int} (h : Ow w base (.slice (some ⟨g, 0, none⟩) m cap) l) (hm : l.length = m) (j : Nat) (x : Int) :
    Ow (w.setCell ⟨g, j, none⟩ (.int .u64 x)) base (.slice (some ⟨g, 0, none⟩) m cap) (l.set j x) ∧ Below base w (w.setCell ⟨g, j, none⟩ (.int .u64 x)) := by
  subst hm
  have h1 := World.ownsRow.stored h j (.int .u64 x)
  have hb := (World.ownsRow.lt h g rfl).1
  refine ⟨?_, (Below.refl _ _).setCell hb _⟩
  unfold Ow
  rw [List.length_set, List.map_set]
  exact h1.1
theorem Ow.cell {w : World} {base g m cap : Nat} {l : List Int} (h : Ow w base (.slice (some ⟨g, 0, none⟩) m cap) l) (hm : l.length = m) {j : Nat} (hj : j < l.length) : w.cell? ⟨g, j, none⟩ = some (.int .u64 l[j]) ∧ w.frozen? ⟨g, j, none⟩ = false := by
  subst hm
  refine ⟨?_, World.ownsRow.frozenAt h j⟩
  rw [World.ownsRow.cellAt h j (by omega)]
  simp [hj]
theorem Ow.form' {w : World} {base m : Nat} {v : Value} {l : List Int} (h : Ow w base v l) (hm : l.length = m) (hp : 0 < m) : ∃ g cap, v = .slice (some ⟨g, 0, none⟩) m cap ∧ base ≤ g ∧ g < w.heap.size := by
  subst hm
  exact World.ownsRow.form h hp
def SrRel (w : World) (D : List Int) (r : Nat) (sv yv : Value) (j : Nat) (wr : World) : Prop := ∃ L y, yv = .int .u64 y ∧ SrInv D r j L y ∧ Ow wr w.heap.size sv L ∧ Below w.heap.size w wr

set_option maxHeartbeats 4000000 in
theorem RShr_any (A : Option Addr) (n c : Nat) (l : List Int) (i : Int) (w : World) (h : Rd w w.heap.size A n c l) (hn : n ≤ 1000000) :
    Calls Tryd.prog 102 #[.slice A n c, .int .i64 i] w (Out w (vl Wd l / 2 ^ sc i)) := by
  have hsc := sc_le i
  have Z1 := Lib.hid (Sm.of h hn)
  generalize hN : vl Wd l = N at *
  have HN := Lib.hid hN; clear hN
  go_enter Tryd.func102, Tryd.ntmps102
  go_wp2_with fail
  refine (rshift_any i _).mono ?_
  rintro e w' ⟨rfl, rfl⟩
  generalize sc i = s at *
  obtain ⟨q, hq⟩ : ∃ q, q = s / 32 := ⟨_, rfl⟩
  obtain ⟨r, hr⟩ : ∃ r, r = s % 32 := ⟨_, rfl⟩
  have eq1 : (s : Int) / 32 = q := by omega
  have eq2 : (s : Int) % 32 = r := by omega
  have hr31 : r ≤ 31 := by omega
  have hq256 : q ≤ 256 := by omega
  have hsq : s = 32 * q + r := by omega
  obtain ⟨p0, p1, p2⟩ := pow2_lt hr31
  have ew : IntKind.u64.wrap (r : Int) = r := by rw [wrap_u64]; omega
  have ep : IntKind.u64.wrap ((2 : Int) ^ r) = 2 ^ r := by rw [wrap_u64]; omega
  have HS := Lib.hid hsq; clear hq hr hsq
  go_wp2_with fail
  refine (Digits_any _ _ _ _ _ h (by omega)).mono ?_
  rintro e w1 ⟨A1, n1, c1, rfl, g1, hb1⟩
  rw [HN.out] at g1
  have y1 := g1.smallH Z1.out
  clear Z1
  have H := Lib.hid g1.len
  have hcap := g1.cap
  by_cases h0 : n1 ≤ q
  · have hz : N / 2 ^ s = 0 := by
      refine Nat.div_eq_of_lt ?_
      have h1 := dg_lt Hb2 (Nat.le_of_eq H.out)
      have h2 : 2 ^ (32 * n1) ≤ 2 ^ s := Nat.pow_le_pow_right (by omega) (by have := HS.out; omega)
      rw [Hb_pow_k] at h1
      omega
    have HZ := Lib.hid hz; clear hz
    go_wp2
    go_ret
    exact ⟨_, _, _, rfl, by rw [HZ.out, dg_zero]; exact Rd.nil, hb1⟩
  · obtain ⟨b, of, rfl, hdr⟩ := g1.drop (m := q) (by omega)
    have hval := srH_val (N := N) (q := q) (r := r) HS.out (by have := H.out; omega)
    have HV := Lib.hid hval; clear hval
    have hDl : ((dg Hb N).drop q).length = n1 - q := by rw [List.length_drop, H.out]
    have hDlim : Lim Hb ((dg Hb N).drop q) := (Lim_dg Hb2 N).drop q
    generalize (dg Hb N).drop q = D at *
    obtain ⟨m, hm⟩ : ∃ m, n1 - q = m := ⟨_, rfl⟩
    have hmp : 0 < m := by omega
    have hm2 : m ≤ 2000000 := by omega
    rw [hm] at hdr hDl
    have hqc : ¬ c1 = q := by omega
    have hqn : q ≤ n1 := by omega
    have HDL := Lib.hid hDl
    clear hDl
    go_wp2_with (at_builtin; refine wp_all64 rfl (.tmp 19) (.tmp 23) rfl w1.heap.size _ [] rfl (Ow.empty w1 w1.heap.size (Nat.le_refl _)) (some ⟨b, of + q, none⟩) m (c1 - q) w1.heap.size D rfl (hdr.alloc (Nat.le_refl _) _) (by simp) (by omega) (by simp) ?_; intro v2 w2 ho2 hb2; rw [List.nil_append] at ho2; obtain ⟨g, cap, rfl, hbg, hlg⟩ := ho2.form' HDL.out hmp)
    have hb2' := ((Below.refl _ _).alloc (Nat.le_refl _) _).trans hb2
    go_loopw [7, 8, 9] (fun yv iv _ wr => ∃ j : Nat, j ≤ m ∧ iv = .int .i64 ((j : Int) - 1) ∧ SrRel w1 D r (.slice (some ⟨g, 0, none⟩) m cap) yv j wr) (fun _ iv _ _ => (intOf iv + 1).toNat)
    case atStart => exact ⟨m, Nat.le_refl _, rfl, D, 0, rfl, ⟨rfl, hDlim, rfl, by rw [List.drop_eq_nil_of_le (Nat.le_of_eq HDL.out)]; simp [vl], by rw [List.drop_eq_nil_of_le (Nat.le_of_eq HDL.out)]; simp [vl]⟩, ho2, hb2'⟩
    case round =>
      obtain ⟨j, hj, rfl, L, y, rfl, j1, j2, j3⟩ := hrel
      have hLm : L.length = m := j1.1.trans HDL.out
      rcases j with _ | j
      · have i4 := j1.2.2.2.1
        rw [List.drop_zero, List.drop_zero, HV.out] at i4
        obtain ⟨A5, n5, c5, e5, r5⟩ := j2.rd (Lim_Wd j1.2.1) (by omega)
        injection e5 with e5a e5b e5c
        subst e5a e5b e5c
        have H4 := Lib.hid i4; have hL2 := j1.2.1
        have hb := hb1.trans (j3.mono hb1.size)
        clear i4 j1 j2 hLm
        go_wp2_with fail
        refine (Limbs_any _ _ _ _ _ r5 hL2 (by omega)).mono ?_
        rintro e w6 ⟨A6, n6, c6, rfl, g6, hb6⟩
        rw [H4.out] at g6
        have hb := hb.trans (hb6.mono (Nat.le_trans hb1.size (Nat.le_trans j3.size (Nat.le_refl _))))
        go_wp2
        go_ret
        exact ⟨_, _, _, rfl, g6, hb⟩
      · have hjL : j < L.length := by omega
        obtain ⟨cj, fj⟩ := j2.cell hLm hjL
        have bz := dig_lt (j1.2.1.get hjL)
        obtain ⟨X, hX⟩ : ∃ X, y * 4294967296 + L[j] = X := ⟨_, rfl⟩
        obtain ⟨st, hy0, hy1, hX0, hX1⟩ := j1.step hr31 hDlim hjL hX
        obtain ⟨s1, s2⟩ := j2.set hLm j (X / 2 ^ r)
        have R : SrRel w1 D r (.slice (some ⟨g, 0, none⟩) m cap) (.int .u64 (X % 2 ^ r)) j (wr.setCell ⟨g, j, none⟩ (.int .u64 (X / 2 ^ r))) := ⟨_, _, rfl, st, s1, j3.trans s2⟩
        generalize L[j] = z at *
        have ej : ((j + 1 : Nat) : Int) - 1 = j := by omega
        have hjm : (j : Int) < m := by omega
        have f0 : IntKind.u64.wrap (y * 4294967296) = y * 4294967296 := by rw [wrap_u64]; omega
        have f1 : IntKind.u64.wrap (y * 4294967296 + z) = X := by rw [wrap_u64]; omega
        have f2 : IntKind.u64.wrap (X.tdiv (2 ^ r)) = X / 2 ^ r := by
          rw [Int.tdiv_eq_ediv_of_nonneg hX0, wrap_u64]
          have := Int.ediv_le_self (2 ^ r) hX0
          have := Int.ediv_nonneg hX0 p0
          omega
        have f3 : X.tmod (2 ^ r) = X % 2 ^ r := Int.tmod_eq_emod_of_nonneg hX0
        have hp1 : ¬ (2 : Int) ^ r = 0 := by have := Nat.two_pow_pos r; omega
        obtain ⟨xq, hxq⟩ : ∃ xq, X / 2 ^ r = xq := ⟨_, rfl⟩
        obtain ⟨xr, hxr⟩ : ∃ xr, X % 2 ^ r = xr := ⟨_, rfl⟩
        rw [hxq] at f2 R
        rw [hxr] at f3 R
        have hz0 := bz.1; have hz1 := bz.2
        clear st s1 s2 j1 j2 j3 hLm hjL bz
        go_wp2
        go_roundw
        case rel => exact ⟨j, by omega, rfl, R⟩
        case measure => simp [intOf]
end Go.Proofs.YtcoidcbbdibnaaaDoor
