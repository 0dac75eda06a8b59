/-
  The document's answer: times, shift, Shl.
-/
import Derived.Test.YtcoidcbbdibnaaaDoorRmul
namespace Go.Proofs.YtcoidcbbdibnaaaDoor
open Go.RowKit
set_option linter.unusedVariables false

def TmInv (d : List Int) (by_ : Int) (k : Nat) (L : List Int) (c : Int) : Prop := L.length = k ∧ Lim Hb L ∧ 0 ≤ c ∧ c < 4294967296 ∧ vl Hb L + Hb ^ k * c.toNat = vl Hb (d.take k) * by_.toNat
theorem TmInv.step {d L : List Int} {by_ : Int} {k : Nat} {c S : Int} (h : TmInv d by_ k L c) (hd : Lim Hb d) (hb : 0 ≤ by_ ∧ by_ < 4294967296) (hS : c + d.getD k 0 * by_ = S) :
    TmInv d by_ (k + 1) (L ++ [S % 4294967296]) (S / 4294967296) ∧ 0 ≤ S ∧ S < 18446744073709551616 := by
  obtain ⟨h1, h2, h3, h3', h4⟩ := h
  have bx := dig_lt (hd.getD Hb0 k)
  have e1 := take_step (l := d) k
  generalize d.getD k 0 = x at *
  have hp := halves_mul x by_ ⟨bx.1, by omega⟩ ⟨hb.1, by omega⟩
  have hxy : (x * by_).toNat = x.toNat * by_.toNat := Int.toNat_mul bx.1 hb.1
  generalize x * by_ = p at *
  refine ⟨⟨by simp [h1], Lim_append.2 ⟨h2, fun z hz => by simp at hz; subst hz; rw [Hb_eq]; omega⟩, by omega, by omega, ?_⟩, by omega, by omega⟩
  rw [vl_append, h1, e1, Nat.pow_succ, Nat.add_mul, ← h4]
  have e3 : vl Hb [S % 4294967296] = (S % 4294967296).toNat := by simp [vl]
  have e4 : (S % 4294967296).toNat + Hb * (S / 4294967296).toNat = c.toNat + p.toNat := by rw [Hb_eq]; omega
  have e5 : Hb ^ k * ((S % 4294967296).toNat + Hb * (S / 4294967296).toNat) = Hb ^ k * (c.toNat + p.toNat) := by rw [e4]
  simp only [Nat.mul_add] at e5
  rw [e3, Nat.mul_assoc (Hb ^ k) Hb, Nat.mul_assoc (Hb ^ k) x.toNat, ← hxy]
  omega
def TmRel (w : World) (n : Nat) (d : List Int) (by_ : Int) (ov cv : Value) (k : Nat) (wr : World) : Prop :=
  ∃ L c, cv = .int .u64 c ∧ TmInv d by_ k L c ∧ (k = n + 1 → c = 0) ∧ Ow wr w.heap.size ov L ∧ Below w.heap.size w wr

set_option maxHeartbeats 4000000 in
theorem times_any (A : Option Addr) (n c : Nat) (d : List Int) (by_ : Int) (w : World) (h : Rd w w.heap.size A n c d) (hd : Lim Hb d) (hby : 0 ≤ by_ ∧ by_ < 4294967296) (hn : n ≤ 10000000) :
    Calls Tryd.prog 117 #[.slice A n c, .int .u64 by_] w (OutH w (vl Hb d * by_.toNat)) := by
  have H := Lib.hid h.len
  go_enter Tryd.func117, Tryd.ntmps117
  go_wp2
  go_loopw [5, 6, 7, 8] (fun ov cv iv _ wr => ∃ k : Nat, k ≤ n + 1 ∧ iv = .int .i64 k ∧ TmRel w n d by_ ov cv k wr) (fun _ _ iv _ _ => n + 2 - (intOf iv).toNat)
  case atStart => exact ⟨0, by omega, rfl, [], 0, rfl, ⟨rfl, Lim_nil _, by omega, by omega, by simp [vl]⟩, fun h => by omega, Ow.nil _ _, Below.refl _ _⟩
  case round =>
    obtain ⟨k, hk, rfl, L, cy, rfl, k1, k2, k3, k4⟩ := hrel
    have hLk := k1.1
    have hcy0 := k1.2.2.1
    have hcy1 := k1.2.2.2.1
    obtain ⟨Ao, co, rfl, hlc⟩ := k3.slice
    by_cases hkn : k < n
    · have hkl : k < d.length := by have := H.out; omega
      obtain ⟨b, of, rfl, hb, hc⟩ := (h.below k4).at_ (by omega)
      have cx := hc k hkl
      have bx := dig_lt (hd.get hkl)
      have hgx := getD_at hkl
      obtain ⟨S, hS⟩ : ∃ S, cy + d[k] * by_ = S := ⟨_, rfl⟩
      obtain ⟨st, hS0, hS1⟩ := k1.step hd hby (S := S) (by rw [hgx]; exact hS)
      obtain ⟨er, eq⟩ := rem32 hS0 (by omega)
      clear hc hgx
      generalize d[k] = x at *
      have hp := halves_mul x by_ ⟨bx.1, by omega⟩ ⟨hby.1, by omega⟩
      have ep0 : IntKind.u64.wrap (x * by_) = x * by_ := by rw [wrap_u64]; omega
      have f1 : IntKind.u64.wrap (cy + IntKind.u64.wrap (x * by_)) = S := by rw [ep0]; rw [wrap_u64]; omega
      have f2 : IntKind.u64.wrap (cy + x * by_) = S := by rw [wrap_u64]; omega
      obtain ⟨r, hr⟩ : ∃ r, S % 4294967296 = r := ⟨_, rfl⟩
      obtain ⟨q, hq⟩ : ∃ q, S / 4294967296 = q := ⟨_, rfl⟩
      rw [hr] at er st
      rw [hq] at eq st
      have HST := Lib.hid st; have HLK := Lib.hid hLk
      clear st hLk bx k1 hr hq hp hS
      go_wp2_with (at_builtin; refine wp_push64 rfl _ _ rfl w.heap.size _ L rfl (k3.alloc _) wr.heap.size r rfl (by simp [*]) (by have := HLK.out; omega) (by have := k4.size; simp; omega) ?_; intro v' w1 ho1 hb1)
      obtain ⟨A1, cc1, rfl, _⟩ := ho1.slice
      have hbb := (k4.alloc k4.size _).trans hb1
      go_wp2
      go_roundw
      case rel => exact ⟨k + 1, by omega, by go_num, _, _, rfl, HST.out, fun hh => by omega, ho1, hbb⟩
      case measure => simp [intOf]; omega
    · have hgx := getD_out (l := d) (k := k) (by have := H.out; omega)
      by_cases h0 : cy = 0
      · subst h0
        have hval : vl Hb L = vl Hb d * by_.toNat := by
          have := k1.2.2.2.2
          rw [List.take_of_length_le (by have := H.out; omega), show (0 : Int).toNat = 0 from rfl, Nat.mul_zero, Nat.add_zero] at this
          exact this
        obtain ⟨A5, n5, c5, e5, r5⟩ := k3.rd (Lim_Wd k1.2.1) (by omega)
        injection e5 with e5a e5b e5c
        subst e5a e5b e5c
        have HV := Lib.hid hval; have hL2 := k1.2.1
        clear hval k1 hgx hLk
        go_wp2_with fail
        refine (Trim_any _ _ _ _ _ _ r5 hL2).mono ?_
        rintro e w' ⟨n6, rfl, _, r6, rfl⟩
        rw [HV.out] at r6
        go_wp2
        go_ret
        exact ⟨_, _, _, rfl, r6, k4⟩
      · have hkm : k ≠ n + 1 := fun h => h0 (k2 h)
        have hcp : 0 < cy := by omega
        obtain ⟨st, hS0, hS1⟩ := k1.step hd hby (S := cy) (by rw [hgx]; omega)
        have e1 : cy % 4294967296 = cy := by omega
        have e2 : cy / 4294967296 = 0 := by omega
        rw [e1, e2] at st
        have f1 : cy.tmod 4294967296 = cy := by rw [Int.tmod_eq_emod_of_nonneg hcy0]; exact e1
        have f2 : IntKind.u64.wrap (cy.tdiv 4294967296) = 0 := by rw [Int.tdiv_eq_ediv_of_nonneg hcy0, e2]; rfl
        have HST := Lib.hid st; have HLK := Lib.hid hLk
        clear st hLk k1 hgx h0
        go_wp2_with (at_builtin; refine wp_push64 rfl _ _ rfl w.heap.size _ L rfl (k3.alloc _) wr.heap.size cy rfl (by simp) (by have := HLK.out; omega) (by have := k4.size; simp; omega) ?_; intro v' w1 ho1 hb1)
        obtain ⟨A1, cc1, rfl, _⟩ := ho1.slice
        have hbb := (k4.alloc k4.size _).trans hb1
        go_wp2
        go_roundw
        case rel => exact ⟨k + 1, by omega, by go_num, _, _, rfl, HST.out, fun hh => rfl, ho1, hbb⟩
        case measure => simp [intOf]; omega

set_option maxHeartbeats 400000 in
theorem rshift_any (n : Int) (w : World) : Calls Tryd.prog 116 #[.int .i64 n] w fun e w' => e = .returned (.int .i64 (sc n)) ∧ w = w' := by
  rcases (show n < 0 ∨ (0 ≤ n ∧ n ≤ 8192) ∨ 8192 < n by omega) with h | h | h
  · have e : sc n = 0 := by unfold sc; omega
    go_enter Tryd.func116, Tryd.ntmps116
    go_wp2
    all_goals go_ret
    all_goals exact ⟨ret_i64 (by rw [e]; rfl), rfl⟩
  · have e : (sc n : Int) = n := by unfold sc; omega
    have HE := Lib.hid e; clear e
    obtain ⟨h1, h2⟩ := h
    go_enter Tryd.func116, Tryd.ntmps116
    go_wp2
    all_goals go_ret
    all_goals exact ⟨ret_i64 (by first | (rw [HE.out]; done) | (rw [HE.out]; omega)), rfl⟩
  · have e : sc n = 8192 := by unfold sc; omega
    go_enter Tryd.func116, Tryd.ntmps116
    go_wp2
    all_goals go_ret
    all_goals exact ⟨ret_i64 (by rw [e]; rfl), rfl⟩
theorem Bk.ow {w : World} {g n base : Nat} {l : List Int} (h : Bk w g l) (hn : l.length = n) (hb : base ≤ g) (hm : n ≤ maxLen) : Ow w base (.slice (some ⟨g, 0, none⟩) n n) l := by
  subst hn
  exact ⟨by simp, .inr ⟨g, l.length, (l.map (Value.int .u64)).toArray, rfl, hb, h, Nat.le_refl _, hm, by simp, by simp [List.take_of_length_le]⟩⟩
theorem shlH_val {N q r s : Nat} (hs : s = 32 * q + r) : vl Hb (List.replicate q 0 ++ dg Hb (N * 2 ^ r)) = N * 2 ^ s := by
  rw [vl_append, vl_replicate, vl_dg Hb2, List.length_replicate, hs, Nat.pow_add, ← Hb_pow_k, Nat.zero_add, Nat.mul_left_comm]
theorem pow2_lt {r : Nat} (hr : r ≤ 31) : (0 : Int) ≤ 2 ^ r ∧ (2 : Int) ^ r < 4294967296 ∧ ((2 : Int) ^ r).toNat = 2 ^ r := by
  have h1 : 2 ^ r ≤ 2 ^ 31 := Nat.pow_le_pow_right (by omega) hr
  have e : ((2 : Int) ^ r) = ((2 ^ r : Nat) : Int) := by simp
  rw [e, Int.toNat_natCast]
  have h2 : (2 : Nat) ^ 31 = 2147483648 := by decide
  rw [h2] at h1
  generalize 2 ^ r = y at *
  omega

set_option maxHeartbeats 1000000 in
theorem RShl_any (A : Option Addr) (n c : Nat) (l : List Int) (i : Int) (w : World) (h : Rd w w.heap.size A n c l) (hn : n ≤ 1000000) :
    Calls Tryd.prog 103 #[.slice A n c, .int .i64 i] w (Out w (vl Wd l * 2 ^ sc i)) := by
  have hsc := sc_le i
  have Z1 := Lib.hid (Sm.of h hn)
  go_enter Tryd.func103, Tryd.ntmps103
  go_wp2_with fail
  refine (rshift_any i _).mono ?_
  rintro e w' ⟨rfl, rfl⟩
  generalize sc i = s at *
  obtain ⟨q, hq⟩ : ∃ q, q = s / 32 := ⟨_, rfl⟩
  obtain ⟨r, hr⟩ : ∃ r, r = s % 32 := ⟨_, rfl⟩
  have eq1 : (s : Int) / 32 = q := by omega
  have eq2 : (s : Int) % 32 = r := by omega
  have hr31 : r ≤ 31 := by omega
  have hq256 : q ≤ 256 := by omega
  have hsq : s = 32 * q + r := by omega
  obtain ⟨p0, p1, p2⟩ := pow2_lt hr31
  have ew : IntKind.u64.wrap (r : Int) = r := by rw [wrap_u64]; omega
  have ep : IntKind.u64.wrap ((2 : Int) ^ r) = 2 ^ r := by rw [wrap_u64]; omega
  have HS := Lib.hid hsq; clear hq hr hsq
  go_wp2_with fail
  refine (Digits_any _ _ _ _ _ h (by omega)).mono ?_
  rintro e w1 ⟨A1, n1, c1, rfl, g1, hb1⟩
  have y1 := g1.smallH Z1.out
  clear Z1
  go_wp2_with fail
  refine (times_any _ _ _ _ ((2 : Int) ^ r) _ g1 (Lim_dg Hb2 _) ⟨p0, p1⟩ (by omega)).mono ?_
  rintro e w2 ⟨A2, n2, c2, rfl, g2, hb2⟩
  rw [vl_dg Hb2, p2] at g2
  have y2 : n2 ≤ n1 + 1 := by
    rw [← g2.len, ← g1.len]
    refine dg_len_le Hb2 ?_
    have h5 := dg_lt Hb2 (Nat.le_refl (dg Hb (vl Wd l)).length)
    rw [Nat.pow_succ]
    exact Nat.mul_lt_mul_of_lt_of_le h5 (by rw [Hb_eq]; omega) Hb0
  have hb := hb1.trans (hb2.mono hb1.size)
  clear hb1 hb2 g1
  go_wp2_with (first | (at_make; refine wp_make64 rfl _ _ rfl q _ _ rfl rfl (by omega) (by omega) (by omega) ?_; intro w3 hbk3 hb3; have g3 := (g2.below hb3).more hb3.size; have hlt3 := hbk3.lt) | (at_builtin; refine wp_all64 rfl (.tmp 17) (.tmp 18) rfl w2.heap.size _ (List.replicate q 0) rfl (hbk3.ow (by simp) (Nat.le_refl _) (by unfold maxLen; omega)) A2 n2 c2 _ _ rfl g3 (by simp; omega) (by omega) (by omega) ?_; intro v4 w4 ho4 hb4))
  have hl4 : Lim Hb (List.replicate q 0 ++ dg Hb (vl Wd l * 2 ^ r)) := Lim_append.2 ⟨Lim_replicate Hb0 _, Lim_dg Hb2 _⟩
  have hlen4 : (List.replicate q 0 ++ dg Hb (vl Wd l * 2 ^ r)).length = q + n2 := by rw [List.length_append, List.length_replicate, g2.len]
  obtain ⟨A5, n5, c5, rfl, g5⟩ := ho4.rd (Lim_Wd hl4) (by omega)
  have hn5 : n5 = q + n2 := by rw [← g5.len]; exact hlen4
  have hv := shlH_val (N := vl Wd l) HS.out
  have HV := Lib.hid hv; have HN5 := Lib.hid hn5
  have hb45 := hb3.trans hb4
  have hb := hb.trans (hb45.mono hb.size)
  clear hv hn5 hlen4 ho4 hbk3 hb3 hb4 g2 g3
  refine (Limbs_any _ _ _ _ _ g5 hl4 (by have := HN5.out; omega)).mono ?_
  rintro e w6 ⟨A6, n6, c6, rfl, g6, hb6⟩
  rw [HV.out] at g6
  have hb := hb.trans (hb6.mono hb.size)
  go_wp2
  go_ret
  exact ⟨_, _, _, rfl, g6, hb⟩

/-- The shift downwards: the digits from j on are done. -/
def SrInv (D : List Int) (r j : Nat) (L : List Int) (y : Int) : Prop :=
  L.length = D.length ∧ Lim Hb L ∧ L.take j = D.take j ∧ vl Hb (L.drop j) = vl Hb (D.drop j) / 2 ^ r ∧ y = ((vl Hb (D.drop j) % 2 ^ r : Nat) : Int)
theorem SrInv.step {D L : List Int} {r j : Nat} {y X : Int} (hr : r ≤ 31) (hD : Lim Hb D) (h : SrInv D r (j + 1) L y) (hj : j < L.length) (hX : y * 4294967296 + L[j] = X) :
    SrInv D r j (L.set j (X / 2 ^ r)) (X % 2 ^ r) ∧ 0 ≤ y ∧ y < 4294967296 ∧ 0 ≤ X ∧ X < 18446744073709551616 := by
  obtain ⟨h1, h2, h3, h4, rfl⟩ := h
  have hjD : j < D.length := by omega
  have hLj : L[j] = D[j] := by
    have e1 : (L.take (j + 1))[j]'(by simp; omega) = L[j] := List.getElem_take
    have e2 : (D.take (j + 1))[j]'(by simp; omega) = D[j] := List.getElem_take
    rw [← e1, ← e2]; simp only [h3]
  rw [hLj] at hX
  have hx := dig_lt (hD.get hjD)
  have hq := vl_drop_step Hb D j hjD
  generalize D[j] = x at *
  generalize vl Hb (D.drop (j + 1)) = Q at *
  obtain ⟨x, rfl⟩ := Int.eq_ofNat_of_zero_le hx.1
  rw [Int.toNat_natCast] at hq
  have h2r : 2 ^ r ≤ 2 ^ 31 := Nat.pow_le_pow_right (by omega) hr
  have h31 : (2 : Nat) ^ 31 = 2147483648 := by decide
  have hrp := Nat.two_pow_pos r
  have hm := Nat.mod_lt Q hrp
  have hXn : X = ((Q % 2 ^ r * Hb + x : Nat) : Int) := by rw [Int.natCast_add, Int.natCast_mul, Hb_eq, ← hX]; rfl
  have e2 : ((2 : Int) ^ r) = ((2 ^ r : Nat) : Int) := by simp
  have hxb : Q % 2 ^ r * Hb + x < 2 ^ r * Hb := by
    have : (Q % 2 ^ r + 1) * Hb ≤ 2 ^ r * Hb := Nat.mul_le_mul_right _ hm
    rw [Nat.add_mul, Nat.one_mul] at this
    have h5 : x < Hb := by rw [Hb_eq]; omega
    omega
  rw [hXn, e2, ← Int.natCast_ediv, ← Int.natCast_emod]
  have hdq := Nat.mod_add_div Q (2 ^ r)
  have htot : x + Hb * Q = Q % 2 ^ r * Hb + x + 2 ^ r * (Hb * (Q / 2 ^ r)) := by
    have e5 : Hb * Q = Hb * (Q % 2 ^ r) + Hb * (2 ^ r * (Q / 2 ^ r)) := by rw [← Nat.mul_add, hdq]
    rw [e5, Nat.mul_comm Hb (Q % 2 ^ r), Nat.mul_left_comm Hb (2 ^ r)]
    omega
  refine ⟨⟨by simpa using h1, h2.set j ⟨Int.natCast_nonneg _, Int.ofNat_lt.2 ?_⟩, ?_, ?_, ?_⟩, Int.natCast_nonneg _, ?_, Int.natCast_nonneg _, ?_⟩
  · exact (Nat.div_lt_iff_lt_mul hrp).2 (by rw [Nat.mul_comm Hb]; exact hxb)
  · rw [List.take_set_of_le (Nat.le_refl j)]
    have := congrArg (List.take j) h3
    rw [List.take_take, List.take_take, Nat.min_eq_left (by omega)] at this
    exact this
  · rw [vl_drop_step Hb _ j (by simpa using hj), List.getElem_set_self, Int.toNat_natCast, List.drop_set_of_lt (by omega), h4, hq, htot, Nat.add_mul_div_left _ _ hrp]
  · rw [hq, htot, Nat.add_mul_mod_self_left]
  · have : Q % 2 ^ r < 4294967296 := by omega
    omega
  · have : 2 ^ r * Hb ≤ 2147483648 * Hb := Nat.mul_le_mul_right _ (by omega)
    have h8 : 2147483648 * Hb = 9223372036854775808 := by rw [Hb_eq]
    rw [h8] at this
    generalize Q % 2 ^ r * Hb + x = z at *
    omega
theorem srH_val {N q r s : Nat} (hs : s = 32 * q + r) (hq : q ≤ (dg Hb N).length) : vl Hb ((dg Hb N).drop q) / 2 ^ r = N / 2 ^ s := by
  have e1 := vl_split Hb (dg Hb N) q hq
  rw [vl_dg Hb2] at e1
  have l1 := vl_lt ((Lim_dg Hb2 N).take q)
  rw [List.length_take, Nat.min_eq_left hq] at l1
  have e2 : N / Hb ^ q = vl Hb ((dg Hb N).drop q) := by
    rw [e1, Nat.add_mul_div_left _ _ (Nat.pow_pos Hb0), Nat.div_eq_of_lt l1, Nat.zero_add]
    rw [← e1]
  rw [hs, Nat.pow_add, ← Nat.div_div_eq_div_mul, ← Hb_pow_k, e2]
end Go.Proofs.YtcoidcbbdibnaaaDoor
