/-
  The law NatStands, as a call.
-/
import Derived.Test.YtniippglkboieaaAll
namespace Go.Proofs.Ytniippglkboieaa
open Go.RowKit
set_option linter.unusedVariables false

theorem Ow.some_rd {w : World} {base : Nat} {v : Value} {l : List Int} (h : Ow w base v l) (hl : Lim Wd l) (hn : l.length ≤ 1000) : ∃ A n c, v = .slice A n c ∧ n ≤ 1000 ∧ Rd w w.heap.size A n c l := by
  obtain ⟨A, n, c, e, r⟩ := h.rd hl (by omega)
  exact ⟨A, n, c, e, by rw [← r.len]; exact hn, r⟩
def StRel (wS : World) (g L : Nat) (wr : World) : Prop := ∃ X : List Int, X.length = L ∧ Bk wr g X ∧ Below g wS wr

set_option maxHeartbeats 4000000 in
theorem NatStands_any (A A2 : Option Addr) (n c n2 c2 : Nat) (l1 l2 : List Int) (x : Int) (w : World) (ga : Rd w w.heap.size A n c l1) (gb : Rd w w.heap.size A2 n2 c2 l2) (hx : -9223372036854775808 ≤ x ∧ x ≤ 9223372036854775807) :
    Calls Try.prog 3 #[.slice A n c, .slice A2 n2 c2, .int .i64 x] w fun e w' => e = .returned (.bool true) ∧ Below w.heap.size w w' := by
  go_enter Try.func3, Try.ntmps3
  go_wp2_with fail
  refine (shown_any _).mono ?_
  rintro e w1 ⟨rfl, hb⟩
  have ga := (ga.below hb).more hb.size
  have gb := (gb.below hb).more hb.size
  go_wp2_with fail
  refine (cut_any _ _ _ _ 40 _ _ ga (by omega)).mono ?_
  rintro e w' ⟨A2, n2, c2, rfl, hn2, ga, rfl⟩
  go_wp2_with fail
  refine (cut_any _ _ _ _ 40 _ _ gb (by omega)).mono ?_
  rintro e w' ⟨A3, n3, c3, rfl, hn3, gb, rfl⟩
  have m_ga := Sm.of ga hn2
  generalize hN_ga : vl Wd (l1.take 40) = N1 at *
  have HN_ga := Lib.hid hN_ga; clear hN_ga
  generalize (l1.take 40) = k_ga at *
  have m_gb := Sm.of gb hn3
  generalize hN_gb : vl Wd (l2.take 40) = N2 at *
  have HN_gb := Lib.hid hN_gb; clear hN_gb
  generalize (l2.take 40) = k_gb at *
  have hlim := ga.lim
  have hkl := ga.len
  have HKL := Lib.hid hkl; clear hkl
  go_wp2_with (at_builtin; refine wp_all64 rfl _ _ rfl w1.heap.size _ [] rfl (Ow.empty w1 w1.heap.size (Nat.le_refl _)) A2 n2 c2 _ _ rfl (ga.alloc (Nat.le_refl _) _) (by simp) (by omega) (by simp) ?_; intro v1 w1a ho1 hb1)
  rw [List.nil_append] at ho1
  have hb1 := ((Below.refl _ _).alloc (Nat.le_refl _) _).trans hb1
  obtain ⟨Ao, no, co, rfl, hno, go⟩ := ho1.some_rd hlim (by have := HKL.out; omega)
  clear ho1
  have ga := (ga.below hb1).more hb1.size
  have gb := (gb.below hb1).more hb1.size
  have hb := hb.trans (hb1.mono hb.size)
  clear hb1
  go_wp2_with fail
  refine (Norm_own _ _ _ _ _ _ go (Nat.le_refl _)).mono ?_
  rintro e w4 ⟨hb1, hpost⟩
  rw [HN_ga.out] at hpost
  have hgsz := w1a.heap.size
  have goB := go.below hb1
  have gaB := ga.below hb1
  have gbB := gb.below hb1
  have hb0 := hb
  have ga := (ga.below hb1).more hb1.size
  have gb := (gb.below hb1).more hb1.size
  have go := (go.below hb1).more hb1.size
  have hb := hb.trans (hb1.mono hb.size)
  clear hb1
  rcases hpost with ⟨p1, rfl⟩ | ⟨p1, p2, rfl, p4⟩
  · have gx : Rd w4 w4.heap.size none 0 0 (dg Wd N1) := by rw [p1]; exact Rd.nil
    clear p1 goB gaB hgsz
    go_wp2_with fail
    refine (RNorm_any _ _ _ _ _ ga (by omega)).mono ?_
    rintro e w5 ⟨A_gr, n_gr, c_gr, rfl, gr, hb1⟩
    rw [HN_ga.out] at gr
    have gx := (gx.below hb1).more hb1.size
    have ga := (ga.below hb1).more hb1.size
    have gb := (gb.below hb1).more hb1.size
    have go := (go.below hb1).more hb1.size
    have hb := hb.trans (hb1.mono hb.size)
    clear hb1
    go_wp2_with fail
    refine (Same_any _ _ _ _ _ _ _ _ _ _ gx gr).mono ?_
    rintro e w6 ⟨rfl, hq⟩
    rw [sameB_dg (rfl)]
    have hb1 := hq.bel
    clear hq
    have ga := (ga.below hb1).more hb1.size
    have gb := (gb.below hb1).more hb1.size
    have go := (go.below hb1).more hb1.size
    have hb := hb.trans (hb1.mono hb.size)
    clear hb1
    clear gx gr
    go_wp2_with fail
    refine wp_loop_rounds 1 ?_
    rw [rounds_succ]
    go_wp2_with fail
    refine (Same_any _ _ _ _ _ _ _ _ _ _ go ga).mono ?_
    rintro e w7 ⟨rfl, hq⟩
    rw [sameB_self]
    have hb1 := hq.bel
    clear hq
    have ga := (ga.below hb1).more hb1.size
    have gb := (gb.below hb1).more hb1.size
    have hb := hb.trans (hb1.mono hb.size)
    clear hb1 go
    go_wp2_with fail
    refine (Cmp_any _ _ _ _ _ _ _ _ _ _ ga gb).mono ?_
    rintro e w8 ⟨rfl, hq⟩
    rw [HN_ga.out, HN_gb.out]
    have hb1 := hq.bel
    clear hq
    have ga := (ga.below hb1).more hb1.size
    have gb := (gb.below hb1).more hb1.size
    have hb := hb.trans (hb1.mono hb.size)
    clear hb1
    go_wp2_with fail
    refine (RCmp_any _ _ _ _ _ _ _ _ _ ga gb (by omega) (by omega)).mono ?_
    rintro e w9 ⟨rfl, hb1⟩
    rw [HN_ga.out, HN_gb.out]
    have ga := (ga.below hb1).more hb1.size
    have gb := (gb.below hb1).more hb1.size
    have hb := hb.trans (hb1.mono hb.size)
    clear hb1
    generalize cmpI N1 N2 = cm at *
    have hcmb : (cm == cm) = true := by simp
    go_wp2_with fail
    refine (BitLen_any _ _ _ _ _ _ ga).mono ?_
    rintro e w' ⟨rfl, rfl⟩
    rw [HN_ga.out]
    go_wp2_with fail
    refine (RBitLen_any _ _ _ _ _ ga (by omega)).mono ?_
    rintro e w10 ⟨rfl, hb1⟩
    rw [HN_ga.out]
    have ga := (ga.below hb1).more hb1.size
    have gb := (gb.below hb1).more hb1.size
    have hb := hb.trans (hb1.mono hb.size)
    clear hb1
    generalize bl N1 = β at *
    go_wp2_with fail
    refine (Bit_any _ _ _ _ x _ _ ga hx.2).mono ?_
    rintro e w' ⟨rfl, rfl⟩
    rw [HN_ga.out]
    go_wp2_with fail
    refine (RBit_any _ _ _ _ x _ ga (by omega) hx.2).mono ?_
    rintro e w11 ⟨rfl, hb1⟩
    rw [HN_ga.out]
    have ga := (ga.below hb1).more hb1.size
    have gb := (gb.below hb1).more hb1.size
    have hb := hb.trans (hb1.mono hb.size)
    clear hb1
    generalize bitB N1 x = bb at *
    go_wp2
    go_ret
    exact ⟨by simp, hb⟩
  · have hLn : (dg Wd N1).length ≤ 1000 := by omega
    have hlt0 := p4.lt
    have gx := p4.whole (B := w4.heap.size) (n := (dg Wd N1).length) (c := (dg Wd N1).length) p4.lt rfl (Nat.le_refl _) (by omega) (Lim_dg Wd2 _)
    go_wp2_with fail
    refine (RNorm_any _ _ _ _ _ ga (by omega)).mono ?_
    rintro e w12 ⟨A_gr, n_gr, c_gr, rfl, gr, hb1⟩
    rw [HN_ga.out] at gr
    have p4 := p4.below hb1 p4.lt
    have hlt4 := p4.lt
    have goB := goB.below (hb1.mono (by omega))
    have gaB := gaB.below (hb1.mono (by omega)); have gbB := gbB.below (hb1.mono (by omega))
    have gx := (gx.below hb1).more hb1.size
    have ga := (ga.below hb1).more hb1.size
    have gb := (gb.below hb1).more hb1.size
    have go := (go.below hb1).more hb1.size
    have hb := hb.trans (hb1.mono hb.size)
    clear hb1
    go_wp2_with fail
    refine (Same_any _ _ _ _ _ _ _ _ _ _ gx gr).mono ?_
    rintro e w13 ⟨rfl, hq⟩
    rw [sameB_self]
    have hb1 := hq.bel
    clear hq
    have p4 := p4.below hb1 (by omega)
    have goB := goB.below (hb1.mono (by omega))
    have gaB := gaB.below (hb1.mono (by omega)); have gbB := gbB.below (hb1.mono (by omega))
    have ga := (ga.below hb1).more hb1.size
    have gb := (gb.below hb1).more hb1.size
    have go := (go.below hb1).more hb1.size
    have hb := hb.trans (hb1.mono hb.size)
    clear hb1
    clear gx gr hlt4 hlt0
    generalize hgg : w1a.heap.size = gg at *
    generalize hLL : (dg Wd N1).length = LL at *
    have HLL := Lib.hid hLL; clear hLL
    have Hgg := Lib.hid hgg; clear hgg
    go_wp2_with fail
    go_loopw [11] (fun iv wr => ∃ k : Nat, k ≤ LL ∧ iv = .int .i64 k ∧ StRel w13 gg LL wr) (fun iv _ => LL - (intOf iv).toNat)
    case atStart => exact ⟨0, Nat.zero_le _, rfl, _, HLL.out, p4, Below.refl _ _⟩
    case round =>
      obtain ⟨k, hk, rfl, X, x1, x2, x3⟩ := hrel
      clear p4
      by_cases hkL : k < LL
      · have hkX : k < X.length := by omega
        have hc1 := x2.cell k hkX
        have hf1 := x2.frozen k
        have R : StRel w13 gg LL (wr.setCell ⟨gg, k, none⟩ (.int .u64 7)) := ⟨_, by simpa using x1, x2.set k 7, x3.setCell (Nat.le_refl _) _⟩
        generalize X[k] = z at hc1
        clear x1 x2 x3
        go_wp2
        go_roundw
        case rel => exact ⟨k + 1, by omega, by go_num, R⟩
        case measure => simp [intOf]; omega
      · have goX := goB.below x3
        have gaX := gaB.below x3
        have hsz3 := x3.size
        have hltg := x2.lt
        have hb := hb.trans (x3.mono (by rw [← Hgg.out]; have := hb0.size; omega))
        go_wp2_with fail
        refine (Same_any _ _ _ _ _ _ _ _ _ _ goX gaX).mono ?_
        rintro e w14 ⟨rfl, hq⟩
        rw [sameB_self]
        have hb1 := hq.bel
        clear hq
        have ga := gaX.more (B' := wr.heap.size) (by omega)
        have gb := (gbB.below x3).more (B' := wr.heap.size) (by omega)
        have ga := (ga.below hb1).more hb1.size
        have gb := (gb.below hb1).more hb1.size
        have hb := hb.trans (hb1.mono hb.size)
        clear hb1
        go_wp2_with fail
        refine (Cmp_any _ _ _ _ _ _ _ _ _ _ ga gb).mono ?_
        rintro e w65 ⟨rfl, hq⟩
        rw [HN_ga.out, HN_gb.out]
        have hb1 := hq.bel
        clear hq
        have ga := (ga.below hb1).more hb1.size
        have gb := (gb.below hb1).more hb1.size
        have hb := hb.trans (hb1.mono hb.size)
        clear hb1
        go_wp2_with fail
        refine (RCmp_any _ _ _ _ _ _ _ _ _ ga gb (by omega) (by omega)).mono ?_
        rintro e w66 ⟨rfl, hb1⟩
        rw [HN_ga.out, HN_gb.out]
        have ga := (ga.below hb1).more hb1.size
        have gb := (gb.below hb1).more hb1.size
        have hb := hb.trans (hb1.mono hb.size)
        clear hb1
        generalize cmpI N1 N2 = cm at *
        have hcmb : (cm == cm) = true := by simp
        go_wp2_with fail
        refine (BitLen_any _ _ _ _ _ _ ga).mono ?_
        rintro e w' ⟨rfl, rfl⟩
        rw [HN_ga.out]
        go_wp2_with fail
        refine (RBitLen_any _ _ _ _ _ ga (by omega)).mono ?_
        rintro e w67 ⟨rfl, hb1⟩
        rw [HN_ga.out]
        have ga := (ga.below hb1).more hb1.size
        have gb := (gb.below hb1).more hb1.size
        have hb := hb.trans (hb1.mono hb.size)
        clear hb1
        generalize bl N1 = β at *
        go_wp2_with fail
        refine (Bit_any _ _ _ _ x _ _ ga hx.2).mono ?_
        rintro e w' ⟨rfl, rfl⟩
        rw [HN_ga.out]
        go_wp2_with fail
        refine (RBit_any _ _ _ _ x _ ga (by omega) hx.2).mono ?_
        rintro e w68 ⟨rfl, hb1⟩
        rw [HN_ga.out]
        have ga := (ga.below hb1).more hb1.size
        have gb := (gb.below hb1).more hb1.size
        have hb := hb.trans (hb1.mono hb.size)
        clear hb1
        generalize bitB N1 x = bb at *
        go_wp2
        go_ret
        exact ⟨by simp, hb⟩
end Go.Proofs.Ytniippglkboieaa
