/-
  the laws of rows: sum, few, part.
-/
import Derived.Test.YthlpdljkclngdaaKexp
import Derived.Test.YthlpdljkclngdaaKatanh
import Derived.Test.YthlpdljkclngdaaKatan
import Derived.Test.YthlpdljkclngdaaKsin
import Derived.Test.YthlpdljkclngdaaKcos
import Derived.Test.YthlpdljkclngdaaKcut
namespace Go.Proofs.Ythlpdljkclngdaa
open Go.RowKit
set_option linter.unusedVariables false

theorem Zr.nul (w : World) : Zr w false none 0 0 0 0 := ⟨[], Rd.nil, rfl, Nat.le_refl _⟩
/-- How many halves the number of each function may have at most. -/
def dK (kind : Nat) : Int := match kind with
  | 0 => 2
  | 1 => 1
  | 2 => 1
  | _ => 4
/-- What each of the five answers. -/
def FvPost (w : World) (kind : Nat) (X q m : Int) (e : Ending) (w' : World) : Prop :=
  ∃ P R x, Ou2 w P R x 25 e w' ∧ ((okB X q m (dK kind) = true ∧ P = rwLo kind X q.toNat m.toNat ∧ R = rwHi kind X q.toNat m.toNat ∧ x = 0) ∨ (okB X q m (dK kind) = false ∧ P = 0 ∧ R = 0 ∧ x = 1))
theorem tx6_1 {N : Nat} (h : N < 10) : txL (N : Int) = [digC N] := by
  unfold txL; rw [if_neg (by omega), show (N : Int).natAbs = N by omega, decL_small h]; rfl
theorem tx6_2 {N : Nat} (h : 10 ≤ N) (h2 : N < 100) : txL (N : Int) = [digC (N / 10), digC (N % 10)] := by
  unfold txL; rw [if_neg (by omega), show (N : Int).natAbs = N by omega, decL_big h, decL_small (by omega)]; rfl
theorem tx_40 : txL 40 = [52, 48] := tx6_2 (N := 40) (by omega) (by omega)
theorem tx_46 : txL 46 = [52, 54] := tx6_2 (N := 46) (by omega) (by omega)
theorem tx_8 : txL 8 = [56] := tx6_1 (N := 8) (by omega)
theorem tx_0 : txL 0 = [48] := tx6_1 (N := 0) (by omega)
theorem KExp_is {b : Bool} {A : Option Addr} {n c : Nat} {X : Int} {j : Nat} {w : World} (h : Zr w b A n c X j) (q m : Int) (hj : j ≤ 20) : Calls Try.prog 20 #[.agg #[.bool b, .slice A n c], .int .i64 q, .int .i64 m] w (FvPost w 0 X q m) := by
  rcases hok : okB X q m (dK 0) with _ | _
  · exact (KExp_no h q m 25 hok (by omega)).mono fun e w' he => ⟨0, 0, 1, he, Or.inr ⟨hok, rfl, rfl, rfl⟩⟩
  · obtain ⟨Q, M, rfl, rfl, h1, h2, h3, h4, h5⟩ := ok_is hok
    exact (KExp_yes h Q M h1 ⟨h2, h3⟩ ⟨h4, h5⟩ hj).mono fun e w' he => ⟨_, _, 0, he, Or.inl ⟨hok, rfl, rfl, rfl⟩⟩
theorem KAtanh_is {b : Bool} {A : Option Addr} {n c : Nat} {X : Int} {j : Nat} {w : World} (h : Zr w b A n c X j) (q m : Int) (hj : j ≤ 20) : Calls Try.prog 24 #[.agg #[.bool b, .slice A n c], .int .i64 q, .int .i64 m] w (FvPost w 1 X q m) := by
  rcases hok : okB X q m (dK 1) with _ | _
  · exact (KAtanh_no h q m 25 hok (by omega)).mono fun e w' he => ⟨0, 0, 1, he, Or.inr ⟨hok, rfl, rfl, rfl⟩⟩
  · obtain ⟨Q, M, rfl, rfl, h1, h2, h3, h4, h5⟩ := ok_is hok
    exact (KAtanh_yes h Q M h1 ⟨h2, h3⟩ ⟨h4, h5⟩ hj).mono fun e w' he => ⟨_, _, 0, he, Or.inl ⟨hok, rfl, rfl, rfl⟩⟩
theorem KAtan_is {b : Bool} {A : Option Addr} {n c : Nat} {X : Int} {j : Nat} {w : World} (h : Zr w b A n c X j) (q m : Int) (hj : j ≤ 20) : Calls Try.prog 21 #[.agg #[.bool b, .slice A n c], .int .i64 q, .int .i64 m] w (FvPost w 2 X q m) := by
  rcases hok : okB X q m (dK 2) with _ | _
  · exact (KAtan_no h q m 25 hok (by omega)).mono fun e w' he => ⟨0, 0, 1, he, Or.inr ⟨hok, rfl, rfl, rfl⟩⟩
  · obtain ⟨Q, M, rfl, rfl, h1, h2, h3, h4, h5⟩ := ok_is hok
    exact (KAtan_yes h Q M h1 ⟨h2, h3⟩ ⟨h4, h5⟩ hj).mono fun e w' he => ⟨_, _, 0, he, Or.inl ⟨hok, rfl, rfl, rfl⟩⟩
theorem KSin_is {b : Bool} {A : Option Addr} {n c : Nat} {X : Int} {j : Nat} {w : World} (h : Zr w b A n c X j) (q m : Int) (hj : j ≤ 20) : Calls Try.prog 12 #[.agg #[.bool b, .slice A n c], .int .i64 q, .int .i64 m] w (FvPost w 3 X q m) := by
  rcases hok : okB X q m (dK 3) with _ | _
  · exact (KSin_no h q m 25 hok (by omega)).mono fun e w' he => ⟨0, 0, 1, he, Or.inr ⟨hok, rfl, rfl, rfl⟩⟩
  · obtain ⟨Q, M, rfl, rfl, h1, h2, h3, h4, h5⟩ := ok_is hok
    exact (KSin_yes h Q M h1 ⟨h2, h3⟩ ⟨h4, h5⟩ hj).mono fun e w' he => ⟨_, _, 0, he, Or.inl ⟨hok, rfl, rfl, rfl⟩⟩
theorem KCos_is {b : Bool} {A : Option Addr} {n c : Nat} {X : Int} {j : Nat} {w : World} (h : Zr w b A n c X j) (q m : Int) (hj : j ≤ 20) : Calls Try.prog 13 #[.agg #[.bool b, .slice A n c], .int .i64 q, .int .i64 m] w (FvPost w 4 X q m) := by
  rcases hok : okB X q m (dK 4) with _ | _
  · exact (KCos_no h q m 25 hok (by omega)).mono fun e w' he => ⟨0, 0, 1, he, Or.inr ⟨hok, rfl, rfl, rfl⟩⟩
  · obtain ⟨Q, M, rfl, rfl, h1, h2, h3, h4, h5⟩ := ok_is hok
    exact (KCos_yes h Q M h1 ⟨h2, h3⟩ ⟨h4, h5⟩ hj).mono fun e w' he => ⟨_, _, 0, he, Or.inl ⟨hok, rfl, rfl, rfl⟩⟩
set_option maxRecDepth 100000 in
set_option maxHeartbeats 8000000 in
theorem Lsum_any {b : Bool} {A : Option Addr} {n c : Nat} {X : Int} {j : Nat} {w : World} (h : Zr w b A n c X j) (kind : Nat) (hk : kind ≤ 4) (q m : Int) (hj : j ≤ 20) :
    Calls Try.prog 9 #[.int .i64 (kind : Nat), .agg #[.bool b, .slice A n c], .int .i64 q, .int .i64 m] w (FvPost w kind X q m) := by
  rcases (show kind = 0 ∨ kind = 1 ∨ kind = 2 ∨ kind = 3 ∨ kind = 4 by omega) with rfl | rfl | rfl | rfl | rfl
  · go_enter Try.func9, Try.ntmps9
    go_upto_region 1 with fail
    have x_a : Bx (w.alloc (.cells #[.bool b, .slice A n c] 24)) (w.heap.size) b A n c := by have := Bx.new w b A n c; simpa using this
    replace x_a := x_a.alloc (.cells #[.bool false, .slice none 0 0] 24)
    have x_r : Bx ((w.alloc (.cells #[.bool b, .slice A n c] 24)).alloc (.cells #[.bool false, .slice none 0 0] 24)) (w.heap.size + 1) false none 0 0 := by have := Bx.new (w.alloc (.cells #[.bool b, .slice A n c] 24)) false none 0 0; simpa using this
    replace x_a := x_a.alloc (.cells #[.bool false, .slice none 0 0] 24)
    replace x_r := x_r.alloc (.cells #[.bool false, .slice none 0 0] 24)
    have x_p : Bx (((w.alloc (.cells #[.bool b, .slice A n c] 24)).alloc (.cells #[.bool false, .slice none 0 0] 24)).alloc (.cells #[.bool false, .slice none 0 0] 24)) (w.heap.size + 1 + 1) false none 0 0 := by have := Bx.new ((w.alloc (.cells #[.bool b, .slice A n c] 24)).alloc (.cells #[.bool false, .slice none 0 0] 24)) false none 0 0; simpa using this
    have hb : Below w.heap.size w (((w.alloc (.cells #[.bool b, .slice A n c] 24)).alloc (.cells #[.bool false, .slice none 0 0] 24)).alloc (.cells #[.bool false, .slice none 0 0] 24)) := (Below.alloc (Below.alloc (Below.alloc (Below.refl w.heap.size w) (by simp) (.cells #[.bool b, .slice A n c] 24)) (by simp) (.cells #[.bool false, .slice none 0 0] 24)) (by simp; omega) (.cells #[.bool false, .slice none 0 0] 24))
    generalize ((w.alloc (.cells #[.bool b, .slice A n c] 24)).alloc (.cells #[.bool false, .slice none 0 0] 24)).alloc (.cells #[.bool false, .slice none 0 0] 24) = v1 at *
    replace h := h.keep hb
    obtain ⟨q_a0, f_a0, q_a1, f_a1⟩ := x_a.al
    obtain ⟨q_r0, f_r0, q_r1, f_r1⟩ := x_r.al
    obtain ⟨q_p0, f_p0, q_p1, f_p1⟩ := x_p.al
    go_wp2_with fail
    with_reducible refine (KExp_is h q m hj).mono ?_
    rintro e v2 ⟨P, R, x, ⟨A5, n5, c5, A6, n6, c6, rfl, z5, z6, hb1⟩, hc⟩
    replace x_a := x_a.keep hb1
    replace x_r := x_r.keep hb1
    replace x_p := x_p.keep hb1
    replace h := h.keep hb1
    replace hb := bthen hb hb1
    clear hb1
    clear q_a0 f_a0 q_a1 f_a1; obtain ⟨q_a0, f_a0, q_a1, f_a1⟩ := x_a.al
    clear q_r0 f_r0 q_r1 f_r1; obtain ⟨q_r0, f_r0, q_r1, f_r1⟩ := x_r.al
    clear q_p0 f_p0 q_p1 f_p1; obtain ⟨q_p0, f_p0, q_p1, f_p1⟩ := x_p.al
    have HC := Lib.hid hc; clear hc
    go_wp2_with fail
    replace x_a := x_a.aside (b' := (ngB P)) (A' := A5) (n' := n5) (c' := c5) (g := w.heap.size + 1) (by omega)
    replace x_p := x_p.aside (b' := (ngB P)) (A' := A5) (n' := n5) (c' := c5) (g := w.heap.size + 1) (by omega)
    replace h := h.put (b' := (ngB P)) (A' := A5) (n' := n5) (c' := c5) x_r
    replace z5 := z5.put (b' := (ngB P)) (A' := A5) (n' := n5) (c' := c5) x_r
    replace z6 := z6.put (b' := (ngB P)) (A' := A5) (n' := n5) (c' := c5) x_r
    replace hb := put_below (g := w.heap.size + 1) hb (by omega) (.bool (ngB P)) (.slice A5 n5 c5)
    replace x_r := x_r.put (ngB P) A5 n5 c5
    clear q_a0 f_a0 q_a1 f_a1 q_r0 f_r0 q_r1 f_r1 q_p0 f_p0 q_p1 f_p1
    generalize (v2.setCell ⟨w.heap.size + 1, 0, none⟩ (.bool (ngB P))).setCell ⟨w.heap.size + 1, 1, none⟩ (.slice A5 n5 c5) = v3 at *
    obtain ⟨q_a0, f_a0, q_a1, f_a1⟩ := x_a.al
    obtain ⟨q_r0, f_r0, q_r1, f_r1⟩ := x_r.al
    obtain ⟨q_p0, f_p0, q_p1, f_p1⟩ := x_p.al
    replace x_a := x_a.aside (b' := (ngB R)) (A' := A6) (n' := n6) (c' := c6) (g := w.heap.size + 1 + 1) (by omega)
    replace x_r := x_r.aside (b' := (ngB R)) (A' := A6) (n' := n6) (c' := c6) (g := w.heap.size + 1 + 1) (by omega)
    replace h := h.put (b' := (ngB R)) (A' := A6) (n' := n6) (c' := c6) x_p
    replace z5 := z5.put (b' := (ngB R)) (A' := A6) (n' := n6) (c' := c6) x_p
    replace z6 := z6.put (b' := (ngB R)) (A' := A6) (n' := n6) (c' := c6) x_p
    replace hb := put_below (g := w.heap.size + 1 + 1) hb (by omega) (.bool (ngB R)) (.slice A6 n6 c6)
    replace x_p := x_p.put (ngB R) A6 n6 c6
    clear q_a0 f_a0 q_a1 f_a1 q_r0 f_r0 q_r1 f_r1 q_p0 f_p0 q_p1 f_p1
    generalize (v3.setCell ⟨w.heap.size + 1 + 1, 0, none⟩ (.bool (ngB R))).setCell ⟨w.heap.size + 1 + 1, 1, none⟩ (.slice A6 n6 c6) = v4 at *
    obtain ⟨q_a0, f_a0, q_a1, f_a1⟩ := x_a.al
    obtain ⟨q_r0, f_r0, q_r1, f_r1⟩ := x_r.al
    obtain ⟨q_p0, f_p0, q_p1, f_p1⟩ := x_p.al
    skip
    refine bodyPost_ret (v := .tuple #[.agg #[.bool (ngB P), .slice A5 n5 c5], .agg #[.bool (ngB R), .slice A6 n6 c6], .int .i64 x]) (by simp [results, Try.results9, go_sem, q_r0, q_r1, q_p0, q_p1]) rfl ?_
    exact ⟨P, R, x, ⟨_, _, _, _, _, _, rfl, z5, z6, hb⟩, HC.out⟩
  · go_enter Try.func9, Try.ntmps9
    go_upto_region 1 with fail
    have x_a : Bx (w.alloc (.cells #[.bool b, .slice A n c] 24)) (w.heap.size) b A n c := by have := Bx.new w b A n c; simpa using this
    replace x_a := x_a.alloc (.cells #[.bool false, .slice none 0 0] 24)
    have x_r : Bx ((w.alloc (.cells #[.bool b, .slice A n c] 24)).alloc (.cells #[.bool false, .slice none 0 0] 24)) (w.heap.size + 1) false none 0 0 := by have := Bx.new (w.alloc (.cells #[.bool b, .slice A n c] 24)) false none 0 0; simpa using this
    replace x_a := x_a.alloc (.cells #[.bool false, .slice none 0 0] 24)
    replace x_r := x_r.alloc (.cells #[.bool false, .slice none 0 0] 24)
    have x_p : Bx (((w.alloc (.cells #[.bool b, .slice A n c] 24)).alloc (.cells #[.bool false, .slice none 0 0] 24)).alloc (.cells #[.bool false, .slice none 0 0] 24)) (w.heap.size + 1 + 1) false none 0 0 := by have := Bx.new ((w.alloc (.cells #[.bool b, .slice A n c] 24)).alloc (.cells #[.bool false, .slice none 0 0] 24)) false none 0 0; simpa using this
    have hb : Below w.heap.size w (((w.alloc (.cells #[.bool b, .slice A n c] 24)).alloc (.cells #[.bool false, .slice none 0 0] 24)).alloc (.cells #[.bool false, .slice none 0 0] 24)) := (Below.alloc (Below.alloc (Below.alloc (Below.refl w.heap.size w) (by simp) (.cells #[.bool b, .slice A n c] 24)) (by simp) (.cells #[.bool false, .slice none 0 0] 24)) (by simp; omega) (.cells #[.bool false, .slice none 0 0] 24))
    generalize ((w.alloc (.cells #[.bool b, .slice A n c] 24)).alloc (.cells #[.bool false, .slice none 0 0] 24)).alloc (.cells #[.bool false, .slice none 0 0] 24) = v1 at *
    replace h := h.keep hb
    obtain ⟨q_a0, f_a0, q_a1, f_a1⟩ := x_a.al
    obtain ⟨q_r0, f_r0, q_r1, f_r1⟩ := x_r.al
    obtain ⟨q_p0, f_p0, q_p1, f_p1⟩ := x_p.al
    go_wp2_with fail
    with_reducible refine (KAtanh_is h q m hj).mono ?_
    rintro e v2 ⟨P, R, x, ⟨A5, n5, c5, A6, n6, c6, rfl, z5, z6, hb1⟩, hc⟩
    replace x_a := x_a.keep hb1
    replace x_r := x_r.keep hb1
    replace x_p := x_p.keep hb1
    replace h := h.keep hb1
    replace hb := bthen hb hb1
    clear hb1
    clear q_a0 f_a0 q_a1 f_a1; obtain ⟨q_a0, f_a0, q_a1, f_a1⟩ := x_a.al
    clear q_r0 f_r0 q_r1 f_r1; obtain ⟨q_r0, f_r0, q_r1, f_r1⟩ := x_r.al
    clear q_p0 f_p0 q_p1 f_p1; obtain ⟨q_p0, f_p0, q_p1, f_p1⟩ := x_p.al
    have HC := Lib.hid hc; clear hc
    go_wp2_with fail
    replace x_a := x_a.aside (b' := (ngB P)) (A' := A5) (n' := n5) (c' := c5) (g := w.heap.size + 1) (by omega)
    replace x_p := x_p.aside (b' := (ngB P)) (A' := A5) (n' := n5) (c' := c5) (g := w.heap.size + 1) (by omega)
    replace h := h.put (b' := (ngB P)) (A' := A5) (n' := n5) (c' := c5) x_r
    replace z5 := z5.put (b' := (ngB P)) (A' := A5) (n' := n5) (c' := c5) x_r
    replace z6 := z6.put (b' := (ngB P)) (A' := A5) (n' := n5) (c' := c5) x_r
    replace hb := put_below (g := w.heap.size + 1) hb (by omega) (.bool (ngB P)) (.slice A5 n5 c5)
    replace x_r := x_r.put (ngB P) A5 n5 c5
    clear q_a0 f_a0 q_a1 f_a1 q_r0 f_r0 q_r1 f_r1 q_p0 f_p0 q_p1 f_p1
    generalize (v2.setCell ⟨w.heap.size + 1, 0, none⟩ (.bool (ngB P))).setCell ⟨w.heap.size + 1, 1, none⟩ (.slice A5 n5 c5) = v3 at *
    obtain ⟨q_a0, f_a0, q_a1, f_a1⟩ := x_a.al
    obtain ⟨q_r0, f_r0, q_r1, f_r1⟩ := x_r.al
    obtain ⟨q_p0, f_p0, q_p1, f_p1⟩ := x_p.al
    replace x_a := x_a.aside (b' := (ngB R)) (A' := A6) (n' := n6) (c' := c6) (g := w.heap.size + 1 + 1) (by omega)
    replace x_r := x_r.aside (b' := (ngB R)) (A' := A6) (n' := n6) (c' := c6) (g := w.heap.size + 1 + 1) (by omega)
    replace h := h.put (b' := (ngB R)) (A' := A6) (n' := n6) (c' := c6) x_p
    replace z5 := z5.put (b' := (ngB R)) (A' := A6) (n' := n6) (c' := c6) x_p
    replace z6 := z6.put (b' := (ngB R)) (A' := A6) (n' := n6) (c' := c6) x_p
    replace hb := put_below (g := w.heap.size + 1 + 1) hb (by omega) (.bool (ngB R)) (.slice A6 n6 c6)
    replace x_p := x_p.put (ngB R) A6 n6 c6
    clear q_a0 f_a0 q_a1 f_a1 q_r0 f_r0 q_r1 f_r1 q_p0 f_p0 q_p1 f_p1
    generalize (v3.setCell ⟨w.heap.size + 1 + 1, 0, none⟩ (.bool (ngB R))).setCell ⟨w.heap.size + 1 + 1, 1, none⟩ (.slice A6 n6 c6) = v4 at *
    obtain ⟨q_a0, f_a0, q_a1, f_a1⟩ := x_a.al
    obtain ⟨q_r0, f_r0, q_r1, f_r1⟩ := x_r.al
    obtain ⟨q_p0, f_p0, q_p1, f_p1⟩ := x_p.al
    skip
    refine bodyPost_ret (v := .tuple #[.agg #[.bool (ngB P), .slice A5 n5 c5], .agg #[.bool (ngB R), .slice A6 n6 c6], .int .i64 x]) (by simp [results, Try.results9, go_sem, q_r0, q_r1, q_p0, q_p1]) rfl ?_
    exact ⟨P, R, x, ⟨_, _, _, _, _, _, rfl, z5, z6, hb⟩, HC.out⟩
  · go_enter Try.func9, Try.ntmps9
    go_upto_region 1 with fail
    have x_a : Bx (w.alloc (.cells #[.bool b, .slice A n c] 24)) (w.heap.size) b A n c := by have := Bx.new w b A n c; simpa using this
    replace x_a := x_a.alloc (.cells #[.bool false, .slice none 0 0] 24)
    have x_r : Bx ((w.alloc (.cells #[.bool b, .slice A n c] 24)).alloc (.cells #[.bool false, .slice none 0 0] 24)) (w.heap.size + 1) false none 0 0 := by have := Bx.new (w.alloc (.cells #[.bool b, .slice A n c] 24)) false none 0 0; simpa using this
    replace x_a := x_a.alloc (.cells #[.bool false, .slice none 0 0] 24)
    replace x_r := x_r.alloc (.cells #[.bool false, .slice none 0 0] 24)
    have x_p : Bx (((w.alloc (.cells #[.bool b, .slice A n c] 24)).alloc (.cells #[.bool false, .slice none 0 0] 24)).alloc (.cells #[.bool false, .slice none 0 0] 24)) (w.heap.size + 1 + 1) false none 0 0 := by have := Bx.new ((w.alloc (.cells #[.bool b, .slice A n c] 24)).alloc (.cells #[.bool false, .slice none 0 0] 24)) false none 0 0; simpa using this
    have hb : Below w.heap.size w (((w.alloc (.cells #[.bool b, .slice A n c] 24)).alloc (.cells #[.bool false, .slice none 0 0] 24)).alloc (.cells #[.bool false, .slice none 0 0] 24)) := (Below.alloc (Below.alloc (Below.alloc (Below.refl w.heap.size w) (by simp) (.cells #[.bool b, .slice A n c] 24)) (by simp) (.cells #[.bool false, .slice none 0 0] 24)) (by simp; omega) (.cells #[.bool false, .slice none 0 0] 24))
    generalize ((w.alloc (.cells #[.bool b, .slice A n c] 24)).alloc (.cells #[.bool false, .slice none 0 0] 24)).alloc (.cells #[.bool false, .slice none 0 0] 24) = v1 at *
    replace h := h.keep hb
    obtain ⟨q_a0, f_a0, q_a1, f_a1⟩ := x_a.al
    obtain ⟨q_r0, f_r0, q_r1, f_r1⟩ := x_r.al
    obtain ⟨q_p0, f_p0, q_p1, f_p1⟩ := x_p.al
    go_wp2_with fail
    with_reducible refine (KAtan_is h q m hj).mono ?_
    rintro e v2 ⟨P, R, x, ⟨A5, n5, c5, A6, n6, c6, rfl, z5, z6, hb1⟩, hc⟩
    replace x_a := x_a.keep hb1
    replace x_r := x_r.keep hb1
    replace x_p := x_p.keep hb1
    replace h := h.keep hb1
    replace hb := bthen hb hb1
    clear hb1
    clear q_a0 f_a0 q_a1 f_a1; obtain ⟨q_a0, f_a0, q_a1, f_a1⟩ := x_a.al
    clear q_r0 f_r0 q_r1 f_r1; obtain ⟨q_r0, f_r0, q_r1, f_r1⟩ := x_r.al
    clear q_p0 f_p0 q_p1 f_p1; obtain ⟨q_p0, f_p0, q_p1, f_p1⟩ := x_p.al
    have HC := Lib.hid hc; clear hc
    go_wp2_with fail
    replace x_a := x_a.aside (b' := (ngB P)) (A' := A5) (n' := n5) (c' := c5) (g := w.heap.size + 1) (by omega)
    replace x_p := x_p.aside (b' := (ngB P)) (A' := A5) (n' := n5) (c' := c5) (g := w.heap.size + 1) (by omega)
    replace h := h.put (b' := (ngB P)) (A' := A5) (n' := n5) (c' := c5) x_r
    replace z5 := z5.put (b' := (ngB P)) (A' := A5) (n' := n5) (c' := c5) x_r
    replace z6 := z6.put (b' := (ngB P)) (A' := A5) (n' := n5) (c' := c5) x_r
    replace hb := put_below (g := w.heap.size + 1) hb (by omega) (.bool (ngB P)) (.slice A5 n5 c5)
    replace x_r := x_r.put (ngB P) A5 n5 c5
    clear q_a0 f_a0 q_a1 f_a1 q_r0 f_r0 q_r1 f_r1 q_p0 f_p0 q_p1 f_p1
    generalize (v2.setCell ⟨w.heap.size + 1, 0, none⟩ (.bool (ngB P))).setCell ⟨w.heap.size + 1, 1, none⟩ (.slice A5 n5 c5) = v3 at *
    obtain ⟨q_a0, f_a0, q_a1, f_a1⟩ := x_a.al
    obtain ⟨q_r0, f_r0, q_r1, f_r1⟩ := x_r.al
    obtain ⟨q_p0, f_p0, q_p1, f_p1⟩ := x_p.al
    replace x_a := x_a.aside (b' := (ngB R)) (A' := A6) (n' := n6) (c' := c6) (g := w.heap.size + 1 + 1) (by omega)
    replace x_r := x_r.aside (b' := (ngB R)) (A' := A6) (n' := n6) (c' := c6) (g := w.heap.size + 1 + 1) (by omega)
    replace h := h.put (b' := (ngB R)) (A' := A6) (n' := n6) (c' := c6) x_p
    replace z5 := z5.put (b' := (ngB R)) (A' := A6) (n' := n6) (c' := c6) x_p
    replace z6 := z6.put (b' := (ngB R)) (A' := A6) (n' := n6) (c' := c6) x_p
    replace hb := put_below (g := w.heap.size + 1 + 1) hb (by omega) (.bool (ngB R)) (.slice A6 n6 c6)
    replace x_p := x_p.put (ngB R) A6 n6 c6
    clear q_a0 f_a0 q_a1 f_a1 q_r0 f_r0 q_r1 f_r1 q_p0 f_p0 q_p1 f_p1
    generalize (v3.setCell ⟨w.heap.size + 1 + 1, 0, none⟩ (.bool (ngB R))).setCell ⟨w.heap.size + 1 + 1, 1, none⟩ (.slice A6 n6 c6) = v4 at *
    obtain ⟨q_a0, f_a0, q_a1, f_a1⟩ := x_a.al
    obtain ⟨q_r0, f_r0, q_r1, f_r1⟩ := x_r.al
    obtain ⟨q_p0, f_p0, q_p1, f_p1⟩ := x_p.al
    skip
    refine bodyPost_ret (v := .tuple #[.agg #[.bool (ngB P), .slice A5 n5 c5], .agg #[.bool (ngB R), .slice A6 n6 c6], .int .i64 x]) (by simp [results, Try.results9, go_sem, q_r0, q_r1, q_p0, q_p1]) rfl ?_
    exact ⟨P, R, x, ⟨_, _, _, _, _, _, rfl, z5, z6, hb⟩, HC.out⟩
  · go_enter Try.func9, Try.ntmps9
    go_upto_region 1 with fail
    have x_a : Bx (w.alloc (.cells #[.bool b, .slice A n c] 24)) (w.heap.size) b A n c := by have := Bx.new w b A n c; simpa using this
    replace x_a := x_a.alloc (.cells #[.bool false, .slice none 0 0] 24)
    have x_r : Bx ((w.alloc (.cells #[.bool b, .slice A n c] 24)).alloc (.cells #[.bool false, .slice none 0 0] 24)) (w.heap.size + 1) false none 0 0 := by have := Bx.new (w.alloc (.cells #[.bool b, .slice A n c] 24)) false none 0 0; simpa using this
    replace x_a := x_a.alloc (.cells #[.bool false, .slice none 0 0] 24)
    replace x_r := x_r.alloc (.cells #[.bool false, .slice none 0 0] 24)
    have x_p : Bx (((w.alloc (.cells #[.bool b, .slice A n c] 24)).alloc (.cells #[.bool false, .slice none 0 0] 24)).alloc (.cells #[.bool false, .slice none 0 0] 24)) (w.heap.size + 1 + 1) false none 0 0 := by have := Bx.new ((w.alloc (.cells #[.bool b, .slice A n c] 24)).alloc (.cells #[.bool false, .slice none 0 0] 24)) false none 0 0; simpa using this
    have hb : Below w.heap.size w (((w.alloc (.cells #[.bool b, .slice A n c] 24)).alloc (.cells #[.bool false, .slice none 0 0] 24)).alloc (.cells #[.bool false, .slice none 0 0] 24)) := (Below.alloc (Below.alloc (Below.alloc (Below.refl w.heap.size w) (by simp) (.cells #[.bool b, .slice A n c] 24)) (by simp) (.cells #[.bool false, .slice none 0 0] 24)) (by simp; omega) (.cells #[.bool false, .slice none 0 0] 24))
    generalize ((w.alloc (.cells #[.bool b, .slice A n c] 24)).alloc (.cells #[.bool false, .slice none 0 0] 24)).alloc (.cells #[.bool false, .slice none 0 0] 24) = v1 at *
    replace h := h.keep hb
    obtain ⟨q_a0, f_a0, q_a1, f_a1⟩ := x_a.al
    obtain ⟨q_r0, f_r0, q_r1, f_r1⟩ := x_r.al
    obtain ⟨q_p0, f_p0, q_p1, f_p1⟩ := x_p.al
    go_wp2_with fail
    with_reducible refine (KSin_is h q m hj).mono ?_
    rintro e v2 ⟨P, R, x, ⟨A5, n5, c5, A6, n6, c6, rfl, z5, z6, hb1⟩, hc⟩
    replace x_a := x_a.keep hb1
    replace x_r := x_r.keep hb1
    replace x_p := x_p.keep hb1
    replace h := h.keep hb1
    replace hb := bthen hb hb1
    clear hb1
    clear q_a0 f_a0 q_a1 f_a1; obtain ⟨q_a0, f_a0, q_a1, f_a1⟩ := x_a.al
    clear q_r0 f_r0 q_r1 f_r1; obtain ⟨q_r0, f_r0, q_r1, f_r1⟩ := x_r.al
    clear q_p0 f_p0 q_p1 f_p1; obtain ⟨q_p0, f_p0, q_p1, f_p1⟩ := x_p.al
    have HC := Lib.hid hc; clear hc
    go_wp2_with fail
    replace x_a := x_a.aside (b' := (ngB P)) (A' := A5) (n' := n5) (c' := c5) (g := w.heap.size + 1) (by omega)
    replace x_p := x_p.aside (b' := (ngB P)) (A' := A5) (n' := n5) (c' := c5) (g := w.heap.size + 1) (by omega)
    replace h := h.put (b' := (ngB P)) (A' := A5) (n' := n5) (c' := c5) x_r
    replace z5 := z5.put (b' := (ngB P)) (A' := A5) (n' := n5) (c' := c5) x_r
    replace z6 := z6.put (b' := (ngB P)) (A' := A5) (n' := n5) (c' := c5) x_r
    replace hb := put_below (g := w.heap.size + 1) hb (by omega) (.bool (ngB P)) (.slice A5 n5 c5)
    replace x_r := x_r.put (ngB P) A5 n5 c5
    clear q_a0 f_a0 q_a1 f_a1 q_r0 f_r0 q_r1 f_r1 q_p0 f_p0 q_p1 f_p1
    generalize (v2.setCell ⟨w.heap.size + 1, 0, none⟩ (.bool (ngB P))).setCell ⟨w.heap.size + 1, 1, none⟩ (.slice A5 n5 c5) = v3 at *
    obtain ⟨q_a0, f_a0, q_a1, f_a1⟩ := x_a.al
    obtain ⟨q_r0, f_r0, q_r1, f_r1⟩ := x_r.al
    obtain ⟨q_p0, f_p0, q_p1, f_p1⟩ := x_p.al
    replace x_a := x_a.aside (b' := (ngB R)) (A' := A6) (n' := n6) (c' := c6) (g := w.heap.size + 1 + 1) (by omega)
    replace x_r := x_r.aside (b' := (ngB R)) (A' := A6) (n' := n6) (c' := c6) (g := w.heap.size + 1 + 1) (by omega)
    replace h := h.put (b' := (ngB R)) (A' := A6) (n' := n6) (c' := c6) x_p
    replace z5 := z5.put (b' := (ngB R)) (A' := A6) (n' := n6) (c' := c6) x_p
    replace z6 := z6.put (b' := (ngB R)) (A' := A6) (n' := n6) (c' := c6) x_p
    replace hb := put_below (g := w.heap.size + 1 + 1) hb (by omega) (.bool (ngB R)) (.slice A6 n6 c6)
    replace x_p := x_p.put (ngB R) A6 n6 c6
    clear q_a0 f_a0 q_a1 f_a1 q_r0 f_r0 q_r1 f_r1 q_p0 f_p0 q_p1 f_p1
    generalize (v3.setCell ⟨w.heap.size + 1 + 1, 0, none⟩ (.bool (ngB R))).setCell ⟨w.heap.size + 1 + 1, 1, none⟩ (.slice A6 n6 c6) = v4 at *
    obtain ⟨q_a0, f_a0, q_a1, f_a1⟩ := x_a.al
    obtain ⟨q_r0, f_r0, q_r1, f_r1⟩ := x_r.al
    obtain ⟨q_p0, f_p0, q_p1, f_p1⟩ := x_p.al
    skip
    refine bodyPost_ret (v := .tuple #[.agg #[.bool (ngB P), .slice A5 n5 c5], .agg #[.bool (ngB R), .slice A6 n6 c6], .int .i64 x]) (by simp [results, Try.results9, go_sem, q_r0, q_r1, q_p0, q_p1]) rfl ?_
    exact ⟨P, R, x, ⟨_, _, _, _, _, _, rfl, z5, z6, hb⟩, HC.out⟩
  · go_enter Try.func9, Try.ntmps9
    go_upto_region 1 with fail
    have x_a : Bx (w.alloc (.cells #[.bool b, .slice A n c] 24)) (w.heap.size) b A n c := by have := Bx.new w b A n c; simpa using this
    replace x_a := x_a.alloc (.cells #[.bool false, .slice none 0 0] 24)
    have x_r : Bx ((w.alloc (.cells #[.bool b, .slice A n c] 24)).alloc (.cells #[.bool false, .slice none 0 0] 24)) (w.heap.size + 1) false none 0 0 := by have := Bx.new (w.alloc (.cells #[.bool b, .slice A n c] 24)) false none 0 0; simpa using this
    replace x_a := x_a.alloc (.cells #[.bool false, .slice none 0 0] 24)
    replace x_r := x_r.alloc (.cells #[.bool false, .slice none 0 0] 24)
    have x_p : Bx (((w.alloc (.cells #[.bool b, .slice A n c] 24)).alloc (.cells #[.bool false, .slice none 0 0] 24)).alloc (.cells #[.bool false, .slice none 0 0] 24)) (w.heap.size + 1 + 1) false none 0 0 := by have := Bx.new ((w.alloc (.cells #[.bool b, .slice A n c] 24)).alloc (.cells #[.bool false, .slice none 0 0] 24)) false none 0 0; simpa using this
    have hb : Below w.heap.size w (((w.alloc (.cells #[.bool b, .slice A n c] 24)).alloc (.cells #[.bool false, .slice none 0 0] 24)).alloc (.cells #[.bool false, .slice none 0 0] 24)) := (Below.alloc (Below.alloc (Below.alloc (Below.refl w.heap.size w) (by simp) (.cells #[.bool b, .slice A n c] 24)) (by simp) (.cells #[.bool false, .slice none 0 0] 24)) (by simp; omega) (.cells #[.bool false, .slice none 0 0] 24))
    generalize ((w.alloc (.cells #[.bool b, .slice A n c] 24)).alloc (.cells #[.bool false, .slice none 0 0] 24)).alloc (.cells #[.bool false, .slice none 0 0] 24) = v1 at *
    replace h := h.keep hb
    obtain ⟨q_a0, f_a0, q_a1, f_a1⟩ := x_a.al
    obtain ⟨q_r0, f_r0, q_r1, f_r1⟩ := x_r.al
    obtain ⟨q_p0, f_p0, q_p1, f_p1⟩ := x_p.al
    go_wp2_with fail
    with_reducible refine (KCos_is h q m hj).mono ?_
    rintro e v2 ⟨P, R, x, ⟨A5, n5, c5, A6, n6, c6, rfl, z5, z6, hb1⟩, hc⟩
    replace x_a := x_a.keep hb1
    replace x_r := x_r.keep hb1
    replace x_p := x_p.keep hb1
    replace h := h.keep hb1
    replace hb := bthen hb hb1
    clear hb1
    clear q_a0 f_a0 q_a1 f_a1; obtain ⟨q_a0, f_a0, q_a1, f_a1⟩ := x_a.al
    clear q_r0 f_r0 q_r1 f_r1; obtain ⟨q_r0, f_r0, q_r1, f_r1⟩ := x_r.al
    clear q_p0 f_p0 q_p1 f_p1; obtain ⟨q_p0, f_p0, q_p1, f_p1⟩ := x_p.al
    have HC := Lib.hid hc; clear hc
    go_wp2_with fail
    replace x_a := x_a.aside (b' := (ngB P)) (A' := A5) (n' := n5) (c' := c5) (g := w.heap.size + 1) (by omega)
    replace x_p := x_p.aside (b' := (ngB P)) (A' := A5) (n' := n5) (c' := c5) (g := w.heap.size + 1) (by omega)
    replace h := h.put (b' := (ngB P)) (A' := A5) (n' := n5) (c' := c5) x_r
    replace z5 := z5.put (b' := (ngB P)) (A' := A5) (n' := n5) (c' := c5) x_r
    replace z6 := z6.put (b' := (ngB P)) (A' := A5) (n' := n5) (c' := c5) x_r
    replace hb := put_below (g := w.heap.size + 1) hb (by omega) (.bool (ngB P)) (.slice A5 n5 c5)
    replace x_r := x_r.put (ngB P) A5 n5 c5
    clear q_a0 f_a0 q_a1 f_a1 q_r0 f_r0 q_r1 f_r1 q_p0 f_p0 q_p1 f_p1
    generalize (v2.setCell ⟨w.heap.size + 1, 0, none⟩ (.bool (ngB P))).setCell ⟨w.heap.size + 1, 1, none⟩ (.slice A5 n5 c5) = v3 at *
    obtain ⟨q_a0, f_a0, q_a1, f_a1⟩ := x_a.al
    obtain ⟨q_r0, f_r0, q_r1, f_r1⟩ := x_r.al
    obtain ⟨q_p0, f_p0, q_p1, f_p1⟩ := x_p.al
    replace x_a := x_a.aside (b' := (ngB R)) (A' := A6) (n' := n6) (c' := c6) (g := w.heap.size + 1 + 1) (by omega)
    replace x_r := x_r.aside (b' := (ngB R)) (A' := A6) (n' := n6) (c' := c6) (g := w.heap.size + 1 + 1) (by omega)
    replace h := h.put (b' := (ngB R)) (A' := A6) (n' := n6) (c' := c6) x_p
    replace z5 := z5.put (b' := (ngB R)) (A' := A6) (n' := n6) (c' := c6) x_p
    replace z6 := z6.put (b' := (ngB R)) (A' := A6) (n' := n6) (c' := c6) x_p
    replace hb := put_below (g := w.heap.size + 1 + 1) hb (by omega) (.bool (ngB R)) (.slice A6 n6 c6)
    replace x_p := x_p.put (ngB R) A6 n6 c6
    clear q_a0 f_a0 q_a1 f_a1 q_r0 f_r0 q_r1 f_r1 q_p0 f_p0 q_p1 f_p1
    generalize (v3.setCell ⟨w.heap.size + 1 + 1, 0, none⟩ (.bool (ngB R))).setCell ⟨w.heap.size + 1 + 1, 1, none⟩ (.slice A6 n6 c6) = v4 at *
    obtain ⟨q_a0, f_a0, q_a1, f_a1⟩ := x_a.al
    obtain ⟨q_r0, f_r0, q_r1, f_r1⟩ := x_r.al
    obtain ⟨q_p0, f_p0, q_p1, f_p1⟩ := x_p.al
    skip
    refine bodyPost_ret (v := .tuple #[.agg #[.bool (ngB P), .slice A5 n5 c5], .agg #[.bool (ngB R), .slice A6 n6 c6], .int .i64 x]) (by simp [results, Try.results9, go_sem, q_r0, q_r1, q_p0, q_p1]) rfl ?_
    exact ⟨P, R, x, ⟨_, _, _, _, _, _, rfl, z5, z6, hb⟩, HC.out⟩

theorem Lsum_yes {b : Bool} {A : Option Addr} {n c : Nat} {X : Int} {j : Nat} {w : World} (h : Zr w b A n c X j) (kind : Nat) (hk : kind ≤ 4) (Q M : Nat) (hQ : Q ≤ 1200) (hM : 1 ≤ M ∧ M ≤ 400) (hX : 0 ≤ X ∧ 2 * X ≤ twP Q) (hj : j ≤ 20) : Calls Try.prog 9 #[.int .i64 (kind : Nat), .agg #[.bool b, .slice A n c], .int .i64 (Q : Nat), .int .i64 (M : Nat)] w (Ou2 w (rwLo kind X Q M) (rwHi kind X Q M) 0 25) := by
  refine (Lsum_any h kind hk Q M hj).mono fun e w' he => ?_
  obtain ⟨P, R, x, ho, hc⟩ := he
  have hp := tw_pos Q
  have hd : 1 ≤ dK kind := by
    rcases (show kind = 0 ∨ kind = 1 ∨ kind = 2 ∨ kind = 3 ∨ kind = 4 by omega) with rfl | rfl | rfl | rfl | rfl <;> decide
  have hm := Int.mul_le_mul_of_nonneg_right hd (Int.le_of_lt hp)
  have hok := ok_yes (d := dK kind) hQ hM ⟨hX.1, by omega⟩
  rcases hc with ⟨_, rfl, rfl, rfl⟩ | ⟨hno, _⟩
  · exact ho
  · rw [hok] at hno; cases hno
/-- Fewer terms of more places. -/
def fewI (q n : Int) : Int := if 200 < q ∧ 40 < n then 40 else n
set_option maxRecDepth 100000 in
set_option maxHeartbeats 2000000 in
theorem Few_any (q n : Int) (w : World) :
    Calls Try.prog 19 #[.int .i64 q, .int .i64 n] w fun e w' => e = .returned (.int .i64 (fewI q n)) ∧ Below w.heap.size w w' := by
  have hb := Below.refl w.heap.size w
  rcases (show 200 < q ∨ ¬ 200 < q by omega) with h1 | h1
  · rcases (show 40 < n ∨ ¬ 40 < n by omega) with h2 | h2
    · have he : fewI q n = 40 := by unfold fewI; rw [if_pos ⟨h1, h2⟩]
      rw [he]
      clear he
      go_enter Try.func19, Try.ntmps19
      go_wp2
      go_ret
      exact ⟨rfl, hb⟩
    · have he : fewI q n = n := by unfold fewI; rw [if_neg (fun h => h2 h.2)]
      rw [he]
      clear he
      go_enter Try.func19, Try.ntmps19
      go_wp2
      go_ret
      exact ⟨rfl, hb⟩
  · have he : fewI q n = n := by unfold fewI; rw [if_neg (fun h => h1 h.1)]
    rw [he]
    clear he
    go_enter Try.func19, Try.ntmps19
    go_wp2
    go_ret
    exact ⟨rfl, hb⟩

theorem part_bd (X : Int) (Q : Nat) (hQ : 1 ≤ Q) (hQ2 : Q ≤ 1200) : 0 ≤ X % (1 * 2 ^ sc ((Q : Int) - 1)) ∧ 2 * (X % (1 * 2 ^ sc ((Q : Int) - 1))) ≤ twP Q ∧ 1 * (2 : Int) ^ sc ((Q : Int) - 1) ≠ 0 := by
  have e : (1 : Int) * 2 ^ sc ((Q : Int) - 1) = twP (Q - 1) := by rw [show sc ((Q : Int) - 1) = Q - 1 by unfold sc; omega, Int.one_mul]; rfl
  have hp := tw_pos (Q - 1)
  have e2 : twP Q = twP (Q - 1) * 2 := by rw [show twP Q = twP (Q - 1 + 1) by rw [Nat.sub_add_cancel hQ]]; rfl
  rw [e, e2]
  have h1 := Int.emod_nonneg X (show twP (Q - 1) ≠ 0 by omega)
  have h2 := Int.emod_lt_of_pos X hp
  omega
set_option maxRecDepth 100000 in
set_option maxHeartbeats 8000000 in
theorem Part_any {b : Bool} {A : Option Addr} {n c : Nat} {l : List Int} {w : World} (h : Rd w w.heap.size A n c l) (Q : Nat) (hQ : 1 ≤ Q) (hQ2 : Q ≤ 200) :
    Calls Try.prog 8 #[.agg #[.bool b, .slice A n c], .int .i64 (Q : Nat)] w fun e w' => ∃ T, OutZ w T 20 e w' ∧ 0 ≤ T ∧ 2 * T ≤ twP Q := by
  have hpb := fun X => part_bd X Q hQ (by omega)
  have HPB := Lib.hid hpb; clear hpb
  have w1 : IntKind.i64.wrap ((Q : Int) - 1) = Q - 1 := wrapK (by omega) (by omega)
  go_enter Try.func8, Try.ntmps8
  go_upto_region 1 with fail
  have x_a : Bx (w.alloc (.cells #[.bool b, .slice A n c] 24)) (w.heap.size) b A n c := by have := Bx.new w b A n c; simpa using this
  replace x_a := x_a.alloc (.cells #[.bool false, .slice none 0 0] 24)
  have x_r : Bx ((w.alloc (.cells #[.bool b, .slice A n c] 24)).alloc (.cells #[.bool false, .slice none 0 0] 24)) (w.heap.size + 1) false none 0 0 := by have := Bx.new (w.alloc (.cells #[.bool b, .slice A n c] 24)) false none 0 0; simpa using this
  have hb : Below w.heap.size w ((w.alloc (.cells #[.bool b, .slice A n c] 24)).alloc (.cells #[.bool false, .slice none 0 0] 24)) := (Below.alloc (Below.alloc (Below.refl w.heap.size w) (by simp) (.cells #[.bool b, .slice A n c] 24)) (by simp) (.cells #[.bool false, .slice none 0 0] 24))
  generalize (w.alloc (.cells #[.bool b, .slice A n c] 24)).alloc (.cells #[.bool false, .slice none 0 0] 24) = v1 at *
  replace h := h.go hb
  obtain ⟨q_a0, f_a0, q_a1, f_a1⟩ := x_a.al
  obtain ⟨q_r0, f_r0, q_r1, f_r1⟩ := x_r.al
  go_wp2_with fail
  with_reducible refine (Zcut_at h 8 8 rfl (by omega)).mono ?_
  rintro e v2 ⟨Au, nu, cu, rfl, p_, k_, hb1⟩
  replace x_a := x_a.keep hb1
  replace x_r := x_r.keep hb1
  replace h := h.go hb1
  replace hb := bthen hb hb1
  clear hb1
  clear q_a0 f_a0 q_a1 f_a1; obtain ⟨q_a0, f_a0, q_a1, f_a1⟩ := x_a.al
  clear q_r0 f_r0 q_r1 f_r1; obtain ⟨q_r0, f_r0, q_r1, f_r1⟩ := x_r.al
  obtain ⟨U, zu⟩ : ∃ X, Zr _ b Au nu cu X 8 := ⟨_, _, p_, rfl, k_⟩
  clear p_ k_
  clear h
  go_wp2_with fail
  with_reducible refine (ZOf_any 1 (by omega) (by omega)).mono ?_
  rintro e v3 ⟨A9, n9, c9, rfl, z9, hb1⟩
  replace x_a := x_a.keep hb1
  replace x_r := x_r.keep hb1
  replace zu := zu.keep hb1
  replace hb := bthen hb hb1
  clear hb1
  clear q_a0 f_a0 q_a1 f_a1; obtain ⟨q_a0, f_a0, q_a1, f_a1⟩ := x_a.al
  clear q_r0 f_r0 q_r1 f_r1; obtain ⟨q_r0, f_r0, q_r1, f_r1⟩ := x_r.al
  go_wp2_with fail
  with_reducible refine (ZShl_any z9.zr ((Q : Int) - 1) 130 (by omega) (by omega)).mono ?_
  rintro e v4 ⟨A8, n8, c8, rfl, z8, hb1⟩
  replace x_a := x_a.keep hb1
  replace x_r := x_r.keep hb1
  replace zu := zu.keep hb1
  replace z9 := z9.keep hb1
  replace hb := bthen hb hb1
  clear hb1
  clear q_a0 f_a0 q_a1 f_a1; obtain ⟨q_a0, f_a0, q_a1, f_a1⟩ := x_a.al
  clear q_r0 f_r0 q_r1 f_r1; obtain ⟨q_r0, f_r0, q_r1, f_r1⟩ := x_r.al
  have hpb := HPB.out U
  generalize 1 * (2 : Int) ^ sc ((Q : Int) - 1) = S at *
  have HPU := Lib.hid hpb; clear hpb
  go_wp2_with fail
  with_reducible refine (ZDivMod_any zu z8.zr HPU.out.2.2 130 (by omega) (by omega) (by omega)).mono ?_
  rintro e v5 ⟨Aq, nq, cq, Ar, nr, cr, rfl, zq, zt, hb1⟩
  replace x_a := x_a.keep hb1
  replace x_r := x_r.keep hb1
  replace zu := zu.keep hb1
  replace z9 := z9.keep hb1
  replace z8 := z8.keep hb1
  replace hb := bthen hb hb1
  clear hb1
  clear q_a0 f_a0 q_a1 f_a1; obtain ⟨q_a0, f_a0, q_a1, f_a1⟩ := x_a.al
  clear q_r0 f_r0 q_r1 f_r1; obtain ⟨q_r0, f_r0, q_r1, f_r1⟩ := x_r.al
  obtain ⟨D, hD⟩ : ∃ D, U / S = D := ⟨_, rfl⟩
  obtain ⟨T, hT⟩ : ∃ T, U % S = T := ⟨_, rfl⟩
  have hpu := HPU.out
  rw [hD] at zq; rw [hT] at zt hpu
  have hsi : Si T 20 := si1 (q := Q) (by omega) hpu.1 (by omega)
  rw [hD, hT]
  replace zt := zt.slim hsi
  have HP1 := Lib.hid hpu.1; have HP2 := Lib.hid hpu.2.1
  clear hD hT hpu hsi
  have y_a := ((x_a.alloc (.cells #[.bool (ngB D), .slice Aq nq cq] 24)).alloc (.cells #[.bool (ngB T), .slice Ar nr cr] 24)); have yq_a0 := y_a.c0; have yq_a1 := y_a.c1
  have y_r := ((x_r.alloc (.cells #[.bool (ngB D), .slice Aq nq cq] 24)).alloc (.cells #[.bool (ngB T), .slice Ar nr cr] 24)); have yq_r0 := y_r.c0; have yq_r1 := y_r.c1
  go_upto_region 2 with fail
  clear y_a yq_a0 yq_a1 y_r yq_r0 yq_r1
  have l_a_q := x_a.lt
  have l_r_q := x_r.lt
  have e_q : w.heap.size ≤ v5.heap.size := hb.size
  have hb1 := below_alloc2 v5 (.cells #[.bool (ngB D), .slice Aq nq cq] 24) (.cells #[.bool (ngB T), .slice Ar nr cr] 24)
  have x_q := (Bx.new v5 (ngB D) Aq nq cq).alloc (.cells #[.bool (ngB T), .slice Ar nr cr] 24)
  have x_t : Bx ((v5.alloc (.cells #[.bool (ngB D), .slice Aq nq cq] 24)).alloc (.cells #[.bool (ngB T), .slice Ar nr cr] 24)) (v5.heap.size + 1) (ngB T) Ar nr cr := by have := Bx.new (v5.alloc (.cells #[.bool (ngB D), .slice Aq nq cq] 24)) (ngB T) Ar nr cr; simpa using this
  clear q_a0 f_a0 q_a1 f_a1 q_r0 f_r0 q_r1 f_r1
  replace x_a := x_a.keep hb1
  replace x_r := x_r.keep hb1
  replace zu := zu.keep hb1
  replace z9 := z9.keep hb1
  replace z8 := z8.keep hb1
  replace zq := zq.keep hb1
  replace zt := zt.keep hb1
  replace hb := bthen hb hb1
  clear hb1
  generalize (v5.alloc (.cells #[.bool (ngB D), .slice Aq nq cq] 24)).alloc (.cells #[.bool (ngB T), .slice Ar nr cr] 24) = v6 at *
  obtain ⟨q_a0, f_a0, q_a1, f_a1⟩ := x_a.al
  obtain ⟨q_r0, f_r0, q_r1, f_r1⟩ := x_r.al
  obtain ⟨q_q0, f_q0, q_q1, f_q1⟩ := x_q.al
  obtain ⟨q_t0, f_t0, q_t1, f_t1⟩ := x_t.al
  go_wp2_with fail
  replace x_a := x_a.aside (b' := (ngB T)) (A' := Ar) (n' := nr) (c' := cr) (g := w.heap.size + 1) (by omega)
  replace x_q := x_q.aside (b' := (ngB T)) (A' := Ar) (n' := nr) (c' := cr) (g := w.heap.size + 1) (by omega)
  replace x_t := x_t.aside (b' := (ngB T)) (A' := Ar) (n' := nr) (c' := cr) (g := w.heap.size + 1) (by omega)
  replace zu := zu.put (b' := (ngB T)) (A' := Ar) (n' := nr) (c' := cr) x_r
  replace z9 := z9.put (b' := (ngB T)) (A' := Ar) (n' := nr) (c' := cr) x_r
  replace z8 := z8.put (b' := (ngB T)) (A' := Ar) (n' := nr) (c' := cr) x_r
  replace zq := zq.put (b' := (ngB T)) (A' := Ar) (n' := nr) (c' := cr) x_r
  replace zt := zt.put (b' := (ngB T)) (A' := Ar) (n' := nr) (c' := cr) x_r
  replace hb := put_below (g := w.heap.size + 1) hb (by omega) (.bool (ngB T)) (.slice Ar nr cr)
  replace x_r := x_r.put (ngB T) Ar nr cr
  clear q_a0 f_a0 q_a1 f_a1 q_r0 f_r0 q_r1 f_r1 q_q0 f_q0 q_q1 f_q1 q_t0 f_t0 q_t1 f_t1
  generalize (v6.setCell ⟨w.heap.size + 1, 0, none⟩ (.bool (ngB T))).setCell ⟨w.heap.size + 1, 1, none⟩ (.slice Ar nr cr) = v7 at *
  obtain ⟨q_a0, f_a0, q_a1, f_a1⟩ := x_a.al
  obtain ⟨q_r0, f_r0, q_r1, f_r1⟩ := x_r.al
  obtain ⟨q_q0, f_q0, q_q1, f_q1⟩ := x_q.al
  obtain ⟨q_t0, f_t0, q_t1, f_t1⟩ := x_t.al
  skip
  refine bodyPost_ret (v := .agg #[.bool (ngB T), .slice Ar nr cr]) (by simp [results, Try.results8, go_sem, q_r0, q_r1]) rfl ?_
  exact ⟨T, ⟨_, _, _, rfl, zt, hb⟩, HP1.out, HP2.out⟩

end Go.Proofs.Ythlpdljkclngdaa
