/-
  dyad: result.
-/
import Derived.Test.YtcoidcbbdibnaaaDoorDread
namespace Go.Proofs.YtcoidcbbdibnaaaDoor
open Go.RowKit
set_option linter.unusedVariables false

theorem Zn.nil0 (w : World) (k : Nat) : Zn w none 0 0 0 k := ⟨by show Rd w w.heap.size none 0 0 (dg Wd 0); rw [dg_zero]; exact Rd.nil, Nat.zero_le _⟩
theorem OutD.nil0 {w w' : World} {X e : Int} (k : Nat) (h : X = 0) (hb : Below w.heap.size w w') : OutD w (od X) (nE X e) k (.returned (.agg #[.bool false, .slice none 0 0, .int .i64 0])) w' := by
  subst h
  exact ⟨_, _, _, rfl, Zn.nil0 _ _, hb⟩
theorem zi_nat (b : Bool) (N M : Nat) : zi b (N * M) = zi b N * (M : Int) := by
  unfold zi; split
  · rw [Int.natCast_mul, Int.neg_mul]
  · rw [Int.natCast_mul]
/-- What the lowest limb that is not nought says of the whole. -/
theorem low_limb {l : List Int} (hl : Lim Wd l) {k t m : Nat} (hk : k < l.length) (h0 : vl Wd (l.take k) = 0) (hx : l[k] = ((2 ^ t * (2 * m + 1) : Nat) : Int)) (ht : t < 64) (b : Bool) :
    ∃ q : Int, q % 2 = 1 ∧ zi b (vl Wd (l.drop k)) = q * 2 ^ t ∧ zi b (vl Wd l) = q * 2 ^ (64 * k + t) := by
  have e1 := vl_split Wd l k (by omega)
  have e2 := vl_drop_step Wd l k hk
  rw [hx, Int.toNat_natCast] at e2
  generalize vl Wd (l.drop (k + 1)) = r at *
  have eW : Wd = 2 ^ t * (2 * 2 ^ (63 - t)) := by
    rw [← Nat.pow_succ', ← Nat.pow_add, show t + (63 - t + 1) = 64 by omega]; rfl
  have e3 : vl Wd (l.drop k) = (2 * (m + 2 ^ (63 - t) * r) + 1) * 2 ^ t := by
    rw [e2, eW]
    generalize 2 ^ t = p
    generalize 2 ^ (63 - t) = s
    rw [Nat.mul_assoc p, ← Nat.mul_add, Nat.mul_comm p]
    congr 1
    rw [Nat.mul_add, Nat.mul_assoc]; omega
  refine ⟨zi b (2 * (m + 2 ^ (63 - t) * r) + 1), ?_, ?_, ?_⟩
  · unfold zi; split <;> omega
  · rw [e3, zi_nat, pow_cast]
  · rw [e1, h0, Nat.zero_add, e3, Nat.mul_comm, Nat.mul_assoc, zi_nat, pow_cast, show Wd = 2 ^ 64 by rfl, ← Nat.pow_mul, ← Nat.pow_add, Nat.add_comm t]
theorem exact_shr {q : Int} {t : Nat} : q * 2 ^ t / 2 ^ t = q := Int.mul_ediv_cancel _ (by have := two_pow_pos t; omega)
theorem sc_nat {t : Nat} (h : t ≤ 8192) : sc (t : Int) = t := by unfold sc; omega

set_option maxRecDepth 100000 in
set_option maxHeartbeats 8000000 in
theorem result_any {b : Bool} {A : Option Addr} {n c : Nat} {X : Int} {j : Nat} {w : World} (h : Zr w b A n c X j) (hT : Tab w) (e : Int) (he : -100000 ≤ e ∧ e ≤ 100000) (k : Nat) (hk : j + 1 ≤ k) (hj : k ≤ 1000000) :
    Calls Tryd.prog 46 #[.agg #[.bool b, .slice A n c], .int .i64 e] w (OutD w (od X) (nE X e) k) := by
  have hsg := sgnI_is X
  by_cases hX : X = 0
  · have hs0 := sgnI_eq0.2 hX
    have HS := Lib.hid hs0; have HX := Lib.hid hX; clear hs0 hX hsg
    go_enter Tryd.func46, Tryd.ntmps46
    go_wp2_with fail
    have x_m : Bx (w.alloc (.cells #[.bool b, .slice A n c] 24)) (w.heap.size) b A n c := by have := Bx.new w b A n c; simpa using this
    replace x_m := x_m.alloc (.cells #[.bool false, .slice none 0 0, .int .i64 0] 26)
    have x_r : Dx ((w.alloc (.cells #[.bool b, .slice A n c] 24)).alloc (.cells #[.bool false, .slice none 0 0, .int .i64 0] 26)) (w.heap.size + 1) false none 0 0 0 := by have := Dx.new (w.alloc (.cells #[.bool b, .slice A n c] 24)) false none 0 0 0; simpa using this
    have hb : Below w.heap.size w ((w.alloc (.cells #[.bool b, .slice A n c] 24)).alloc (.cells #[.bool false, .slice none 0 0, .int .i64 0] 26)) := (Below.alloc (Below.alloc (Below.refl w.heap.size w) (by simp) (.cells #[.bool b, .slice A n c] 24)) (by simp) (.cells #[.bool false, .slice none 0 0, .int .i64 0] 26))
    generalize (w.alloc (.cells #[.bool b, .slice A n c] 24)).alloc (.cells #[.bool false, .slice none 0 0, .int .i64 0] 26) = v1 at *
    replace h := h.keep hb
    replace hT := hT.keep hb
    have q_m0 := x_m.c0; have q_m1 := x_m.c1; have f_m0 := x_m.fr 0; have f_m1 := x_m.fr 1
    have q_r0 := x_r.c0; have q_r1 := x_r.c1; have f_r0 := x_r.fr 0; have f_r1 := x_r.fr 1; have q_r2 := x_r.c2; have f_r2 := x_r.fr 2
    go_wp2_with fail
    with_reducible refine (ZSign_any h (by omega)).mono ?_
    rintro e v2 ⟨rfl, hb1⟩
    replace x_m := x_m.keep hb1
    replace x_r := x_r.keep hb1
    replace h := h.keep hb1
    replace hT := hT.keep hb1
    replace hb := bthen hb hb1
    clear hb1
    replace q_m0 := x_m.c0; replace q_m1 := x_m.c1; replace f_m0 := x_m.fr 0; replace f_m1 := x_m.fr 1
    replace q_r0 := x_r.c0; replace q_r1 := x_r.c1; replace f_r0 := x_r.fr 0; replace f_r1 := x_r.fr 1; replace q_r2 := x_r.c2; replace f_r2 := x_r.fr 2
    rw [HS.out]
    go_wp2
    replace x_m := x_m.asideD (b' := false) (A' := none) (n' := 0) (c' := 0) (e' := 0) (g := w.heap.size + 1) (by omega)
    replace h := h.putD (b' := false) (A' := none) (n' := 0) (c' := 0) (e' := 0) x_r
    replace hT := hT.putD (b' := false) (A' := none) (n' := 0) (c' := 0) (e' := 0) x_r
    replace hb := put_belowD (g := w.heap.size + 1) hb (by omega) (.bool false) (.slice none 0 0) (.int .i64 0)
    replace x_r := x_r.put false none 0 0 0
    clear q_m0 q_m1 f_m0 f_m1 q_r0 q_r1 f_r0 f_r1 q_r2 f_r2
    generalize ((v2.setCell ⟨w.heap.size + 1, 0, none⟩ (.bool false)).setCell ⟨w.heap.size + 1, 1, none⟩ (.slice none 0 0)).setCell ⟨w.heap.size + 1, 2, none⟩ (.int .i64 0) = v3 at *
    have q_m0 := x_m.c0; have q_m1 := x_m.c1; have f_m0 := x_m.fr 0; have f_m1 := x_m.fr 1
    have q_r0 := x_r.c0; have q_r1 := x_r.c1; have f_r0 := x_r.fr 0; have f_r1 := x_r.fr 1; have q_r2 := x_r.c2; have f_r2 := x_r.fr 2
    refine bodyPost_ret (v := .agg #[.bool false, .slice none 0 0, .int .i64 0]) (by simp [results, Tryd.results46, go_sem, q_r0, q_r1, q_r2]) rfl ?_
    exact OutD.nil0 k HX.out hb
  · have hs0 : (sgnI X == 0) = false := by rw [beq_eq_false_iff_ne]; exact fun h0 => hX (sgnI_eq0.1 h0)
    obtain ⟨l, hr, hz, hn⟩ := id h
    have hlen := hr.len
    have hN : vl Wd l ≠ 0 := fun h0 => hX (by rw [← hz, h0]; cases b <;> rfl)
    have hn0 : 0 < n := by
      rcases Nat.eq_zero_or_pos n with h0 | h0
      · exact absurd (by rw [List.eq_nil_of_length_eq_zero (hlen.trans h0)]; rfl) hN
      · exact h0
    have hcap := hr.cap; have hbig := hr.big; have hlim := hr.lim
    have HLEN := Lib.hid hlen; have HN := Lib.hid hN; have HX := Lib.hid hX; have HZ := Lib.hid hz
    clear hlen hN hX hz
    go_enter Tryd.func46, Tryd.ntmps46
    go_wp2_with fail
    have x_m : Bx (w.alloc (.cells #[.bool b, .slice A n c] 24)) (w.heap.size) b A n c := by have := Bx.new w b A n c; simpa using this
    replace x_m := x_m.alloc (.cells #[.bool false, .slice none 0 0, .int .i64 0] 26)
    have x_r : Dx ((w.alloc (.cells #[.bool b, .slice A n c] 24)).alloc (.cells #[.bool false, .slice none 0 0, .int .i64 0] 26)) (w.heap.size + 1) false none 0 0 0 := by have := Dx.new (w.alloc (.cells #[.bool b, .slice A n c] 24)) false none 0 0 0; simpa using this
    have hb : Below w.heap.size w ((w.alloc (.cells #[.bool b, .slice A n c] 24)).alloc (.cells #[.bool false, .slice none 0 0, .int .i64 0] 26)) := (Below.alloc (Below.alloc (Below.refl w.heap.size w) (by simp) (.cells #[.bool b, .slice A n c] 24)) (by simp) (.cells #[.bool false, .slice none 0 0, .int .i64 0] 26))
    generalize (w.alloc (.cells #[.bool b, .slice A n c] 24)).alloc (.cells #[.bool false, .slice none 0 0, .int .i64 0] 26) = v1 at *
    replace h := h.keep hb
    replace hT := hT.keep hb
    replace hr := hr.go hb
    have q_m0 := x_m.c0; have q_m1 := x_m.c1; have f_m0 := x_m.fr 0; have f_m1 := x_m.fr 1
    have q_r0 := x_r.c0; have q_r1 := x_r.c1; have f_r0 := x_r.fr 0; have f_r1 := x_r.fr 1; have q_r2 := x_r.c2; have f_r2 := x_r.fr 2
    go_wp2_with fail
    with_reducible refine (ZSign_any h (by omega)).mono ?_
    rintro e v2 ⟨rfl, hb1⟩
    replace x_m := x_m.keep hb1
    replace x_r := x_r.keep hb1
    replace h := h.keep hb1
    replace hT := hT.keep hb1
    replace hr := hr.go hb1
    replace hb := bthen hb hb1
    clear hb1
    replace q_m0 := x_m.c0; replace q_m1 := x_m.c1; replace f_m0 := x_m.fr 0; replace f_m1 := x_m.fr 1
    replace q_r0 := x_r.c0; replace q_r1 := x_r.c1; replace f_r0 := x_r.fr 0; replace f_r1 := x_r.fr 1; replace q_r2 := x_r.c2; replace f_r2 := x_r.fr 2
    generalize sgnI X = sg at *
    clear h
    obtain ⟨bl0, of0, rfl, hbl, hcell⟩ := hr.at_ hn0
    have HCELL := Lib.hid hcell; clear hcell
    go_wp2_with fail
    go_loop [5] (fun i => ∃ q : Nat, q < n ∧ i = .int .i64 q ∧ Hid (vl Wd (l.take q) = 0)) (fun i => n - (intOf i).toNat)
    case atStart => exact ⟨0, hn0, rfl, Lib.hid rfl⟩
    case round =>
      obtain ⟨q, hq, rfl, HQ⟩ := hrel
      have hql : q < l.length := by have := HLEN.out; omega
      have hcq := HCELL.out q hql
      have hts := vl_take_succ Wd l q hql
      have hxl : Lm l[q] := hlim.get hql
      have hlow := fun t m => @low_limb l hlim q t m hql HQ.out
      have HTS := Lib.hid hts; have HLOW := Lib.hid hlow; clear hts hlow
      generalize hxe : l[q] = x at *
      have HXE := Lib.hid hxe; clear hxe
      by_cases hx0 : x = 0
      · subst hx0
        have hqq : vl Wd (l.take (q + 1)) = 0 := by have := HTS.out; rw [HQ.out] at this; simpa using this
        have hq1 : q + 1 < n := by
          rcases Nat.lt_or_ge (q + 1) n with h1 | h1
          · exact h1
          · exact absurd (by rw [List.take_of_length_le (by have := HLEN.out; omega)] at hqq; exact hqq) HN.out
        have HQQ := Lib.hid hqq; clear hqq
        go_wp2
        go_round
        case rel => exact ⟨q + 1, hq1, by go_num, HQQ⟩
        case measure => simp [intOf]; omega
      · have hxb : (x == 0) = false := by rw [beq_eq_false_iff_ne]; exact hx0
        go_wp2_with fail
        with_reducible refine (TZ_any x _ hxl hx0 hT).mono ?_
        rintro e9 w9 ⟨t, m, ht, hxt, rfl, rfl⟩
        obtain ⟨p, hp, hP, hXp⟩ := HLOW.out t m hxt ht b
        rw [HZ.out] at hXp
        obtain ⟨hz1, hz2⟩ := nf_unique hXp hp
        have hnE : nE X e = e + (64 * q + t : Nat) := by rw [nE_ne HX.out, hz1]
        have HZ2 := Lib.hid hz2; have HNE := Lib.hid hnE
        clear hz1 hz2 hnE hXp
        obtain ⟨bl1, of1, he1, hd⟩ := hr.drop hq
        injection he1 with he1; injection he1 with he1 he2; subst he1 he2
        have hzd : Zr v2 b (some ⟨bl0, of0 + q, none⟩) (n - q) (c - q) (p * 2 ^ t) j := ⟨_, hd, hP, by omega⟩
        clear hd
        have hqn : q ≤ n := by omega
        have hqc : q ≤ c := by omega
        go_wp2_with fail
        go_region_held3 (fun w' => w'.cell? ⟨w.heap.size, 0, none⟩ = some (.bool b) ∧ w'.cell? ⟨w.heap.size, 1, none⟩ = some (.slice (some ⟨bl0, of0, none⟩) n c))
          (first | (with_reducible exact ⟨x_m.c0, x_m.c1⟩) | (with_reducible exact ⟨(x_m.aside (by omega)).c0, (x_m.aside (by omega)).c1⟩) | (with_reducible exact ⟨((x_m.aside (by omega)).aside (by omega)).c0, ((x_m.aside (by omega)).aside (by omega)).c1⟩) | (with_reducible exact ⟨(x_m.asideD (by omega)).c0, (x_m.asideD (by omega)).c1⟩) | (with_reducible exact ⟨((x_m.asideD (by omega)).asideD (by omega)).c0, ((x_m.asideD (by omega)).asideD (by omega)).c1⟩) | go_keep)
          (first | fail)
        go_wp2_with fail
        have hsc := sc_nat (t := t) (by omega)
        have HSC := Lib.hid hsc; clear hsc
        have hb1 := below_drew (below_alloc v2 (.cells #[.bool b, .slice (some ⟨bl0, of0 + q, none⟩) (n - q) (c - q)] 24))
        have l_m_s := x_m.lt
        have l_r_s := x_r.lt
        have x_s := (Bx.new v2 b (some ⟨bl0, of0 + q, none⟩) (n - q) (c - q)).drew
        have e_s : w.heap.size ≤ v2.heap.size := hb.size
        replace x_m := x_m.keep hb1
        replace x_r := x_r.keep hb1
        replace hT := hT.keep hb1
        replace hr := hr.go hb1
        replace hzd := hzd.keep hb1
        replace hb := bthen hb hb1
        clear hb1
        replace q_m0 := x_m.c0; replace q_m1 := x_m.c1; replace f_m0 := x_m.fr 0; replace f_m1 := x_m.fr 1
        replace q_r0 := x_r.c0; replace q_r1 := x_r.c1; replace f_r0 := x_r.fr 0; replace f_r1 := x_r.fr 1; replace q_r2 := x_r.c2; replace f_r2 := x_r.fr 2
        clear q_m0 q_m1 f_m0 f_m1 q_r0 q_r1 f_r0 f_r1 q_r2 f_r2
        generalize (v2.alloc (.cells #[.bool b, .slice (some ⟨bl0, of0 + q, none⟩) (n - q) (c - q)] 24)).drew = v3 at *
        have q_m0 := x_m.c0; have q_m1 := x_m.c1; have f_m0 := x_m.fr 0; have f_m1 := x_m.fr 1
        have q_r0 := x_r.c0; have q_r1 := x_r.c1; have f_r0 := x_r.fr 0; have f_r1 := x_r.fr 1; have q_r2 := x_r.c2; have f_r2 := x_r.fr 2
        have q_s0 := x_s.c0; have q_s1 := x_s.c1; have f_s0 := x_s.fr 0; have f_s1 := x_s.fr 1
        skip
        with_reducible refine (ZShr_any hzd (t : Int) k hk hj).mono ?_
        rintro e v4 ⟨A3, n3, c3, rfl, z1, hb1⟩
        replace x_m := x_m.keep hb1
        replace x_r := x_r.keep hb1
        replace x_s := x_s.keep hb1
        replace hT := hT.keep hb1
        replace hr := hr.go hb1
        replace hzd := hzd.keep hb1
        replace hb := bthen hb hb1
        clear hb1
        replace q_m0 := x_m.c0; replace q_m1 := x_m.c1; replace f_m0 := x_m.fr 0; replace f_m1 := x_m.fr 1
        replace q_r0 := x_r.c0; replace q_r1 := x_r.c1; replace f_r0 := x_r.fr 0; replace f_r1 := x_r.fr 1; replace q_r2 := x_r.c2; replace f_r2 := x_r.fr 2
        replace q_s0 := x_s.c0; replace q_s1 := x_s.c1; replace f_s0 := x_s.fr 0; replace f_s1 := x_s.fr 1
        rw [HSC.out, exact_shr] at z1 ⊢
        have e3 : (e + q * 64 + t : Int) = e + (64 * q + t : Nat) := by omega
        have HE3 := Lib.hid e3; clear e3
        go_wp2
        replace x_m := x_m.asideD (b' := (ngB p)) (A' := A3) (n' := n3) (c' := c3) (e' := (e + q * 64 + t)) (g := w.heap.size + 1) (by omega)
        replace x_s := x_s.asideD (b' := (ngB p)) (A' := A3) (n' := n3) (c' := c3) (e' := (e + q * 64 + t)) (g := w.heap.size + 1) (by omega)
        replace hT := hT.putD (b' := (ngB p)) (A' := A3) (n' := n3) (c' := c3) (e' := (e + q * 64 + t)) x_r
        replace hr := hr.sputD (b' := (ngB p)) (A' := A3) (n' := n3) (c' := c3) (e' := (e + q * 64 + t)) x_r
        replace hzd := hzd.putD (b' := (ngB p)) (A' := A3) (n' := n3) (c' := c3) (e' := (e + q * 64 + t)) x_r
        replace z1 := z1.putD (b' := (ngB p)) (A' := A3) (n' := n3) (c' := c3) (e' := (e + q * 64 + t)) x_r
        replace hb := put_belowD (g := w.heap.size + 1) hb (by omega) (.bool (ngB p)) (.slice A3 n3 c3) (.int .i64 (e + q * 64 + t))
        replace x_r := x_r.put (ngB p) A3 n3 c3 (e + q * 64 + t)
        clear q_m0 q_m1 f_m0 f_m1 q_r0 q_r1 f_r0 f_r1 q_r2 f_r2 q_s0 q_s1 f_s0 f_s1
        generalize ((v4.setCell ⟨w.heap.size + 1, 0, none⟩ (.bool (ngB p))).setCell ⟨w.heap.size + 1, 1, none⟩ (.slice A3 n3 c3)).setCell ⟨w.heap.size + 1, 2, none⟩ (.int .i64 (e + q * 64 + t)) = v5 at *
        have q_m0 := x_m.c0; have q_m1 := x_m.c1; have f_m0 := x_m.fr 0; have f_m1 := x_m.fr 1
        have q_r0 := x_r.c0; have q_r1 := x_r.c1; have f_r0 := x_r.fr 0; have f_r1 := x_r.fr 1; have q_r2 := x_r.c2; have f_r2 := x_r.fr 2
        have q_s0 := x_s.c0; have q_s1 := x_s.c1; have f_s0 := x_s.fr 0; have f_s1 := x_s.fr 1
        refine bodyPost_ret (v := .agg #[.bool (ngB p), .slice A3 n3 c3, .int .i64 (e + q * 64 + t)]) (by simp [results, Tryd.results46, go_sem, q_r0, q_r1, q_r2]) rfl ?_
        exact ⟨_, _, _, by rw [HZ2.out, HNE.out, ← HE3.out], by rw [HZ2.out]; exact z1, hb⟩

end Go.Proofs.YtcoidcbbdibnaaaDoor
