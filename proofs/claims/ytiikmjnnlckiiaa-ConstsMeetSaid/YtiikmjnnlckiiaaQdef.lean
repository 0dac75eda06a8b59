/-
  consts: numbers; balls handed back.
-/
import Derived.Test.YtiikmjnnlckiiaaKfiv
import Derived.Test.YtiikmjnnlckiiaaQnum
import Derived.Test.YtiikmjnnlckiiaaPg
import Derived.Test.YtiikmjnnlckiiaaLint
namespace Go.Proofs.Ytiikmjnnlckiiaa
open Go.RowKit
set_option linter.unusedVariables false

/-- A ball handed back. -/
def OuB (w : World) (X Y q : Int) (k : Nat) (e : Ending) (w' : World) : Prop := ∃ A n c A2 n2 c2, e = .returned (.agg #[.bool (ngB X), .slice A n c, .bool (ngB Y), .slice A2 n2 c2, .int .i64 q]) ∧ Zn w' A n c X k ∧ Zn w' A2 n2 c2 Y k ∧ Below w.heap.size w w'
/-- A part of 2^w, rounded down. -/
def ptN (w m : Nat) : Int := ((2 ^ w / m : Nat) : Int)
theorem pt_is {w m : Nat} (hw : w ≤ 1000) : 1 * (2 : Int) ^ sc (w : Int) / (m : Int) = ptN w m := by
  rw [show sc (w : Int) = w by unfold sc; omega, Int.one_mul]
  unfold ptN
  rw [Int.natCast_ediv, twN]; rfl
theorem pt_bd {w m : Nat} (hw : 16 ≤ w ∧ w ≤ 1000) (hm : 3 ≤ m) : 0 ≤ ptN w m ∧ 2 * (ptN w m + 1) ≤ twP w ∧ 2 * ptN w m ≤ twP w := by
  have h1 : 2 ^ w / m ≤ 2 ^ w / 3 := Nat.div_le_div_left hm (by omega)
  have h2 : 2 ^ 4 ≤ 2 ^ w := Nat.pow_le_pow_right (by omega) (by omega)
  have h3 : 2 ^ w / m * 3 ≤ 2 ^ w := Nat.le_trans (Nat.mul_le_mul_right 3 h1) (Nat.div_mul_le_self _ _)
  have h4 : (((2 ^ w : Nat)) : Int) = twP w := twN w
  unfold ptN
  generalize 2 ^ w / m = d at *
  generalize 2 ^ w = T at *
  omega
theorem fl16 (X : Int) (q : Int) : flI X (-(q + 16) + q) = X / 65536 := by
  unfold flI
  rw [if_pos (by omega), show (-(-(q + 16) + q)).toNat = 16 by omega]; rfl
/-- The sums are of twenty limbs. -/
theorem rw_si {kind : Nat} (hk : kind = 1 ∨ kind = 2) {t : Int} {q n : Nat} (h0 : 0 ≤ t) (h : t ≤ twP q) (hq : q ≤ 1200) (hn : n ≤ 400) : Si (rwLo kind t q n) 20 ∧ Si (rwHi kind t q n) 20 := by
  have b := fun k => ta_cd2 h0 h k
  have p := tw_pos q
  rcases hk with rfl | rfl
  · have s1 := sum_bd (fun k => (b k).1) (fun k => Int.le_trans (b k).2.1 (b k).2.2) n
    have s2 := sum_bd (fun k => Int.le_trans (b k).1 (b k).2.1) (fun k => (b k).2.2) n
    have b2 := b n
    have e : ((n + 2 : Nat) : Int) * twP q = n * twP q + 2 * twP q := by push_cast; grind
    have m0 := Int.mul_nonneg (show (0 : Int) ≤ n by omega) (Int.le_of_lt p)
    exact ⟨si_tw (K := n + 2) (by omega) hq (by show sumI _ _ ≤ _; omega) (by show _ ≤ sumI _ _; omega), si_tw (K := n + 2) (by omega) hq (by show sumI _ _ + 2 * taD t q n ≤ _; omega) (by show _ ≤ sumI _ _ + 2 * taD t q n; omega)⟩
  · have a1 := alt_bd (fun k => (b k).1) (fun k => Int.le_trans (b k).2.1 (b k).2.2) (fun k => Int.le_trans (b k).1 (b k).2.1) (fun k => (b k).2.2) (2 * n)
    have a2 := alt_bd (fun k => Int.le_trans (b k).1 (b k).2.1) (fun k => (b k).2.2) (fun k => (b k).1) (fun k => Int.le_trans (b k).2.1 (b k).2.2) (2 * n + 1)
    exact ⟨si_tw (K := 2 * n) (by omega) hq a1.2 a1.1, si_tw (K := 2 * n + 1) (by omega) hq a2.2 a2.1⟩
def vCk (q : Nat) : Bool := decide ((lnN (q + 16)).1 ≤ (lnN (q + 16)).2) && decide ((arN (q + 16) 5).1 ≤ (arN (q + 16) 5).2) && decide ((arN (q + 16) 239).1 ≤ (arN (q + 16) 239).2)
set_option maxRecDepth 100000 in
theorem v_all : ((List.range 256) ++ [400, 600, 800]).all vCk = true := by decide +kernel
theorem v_in (q : Nat) (hq : q < 256 ∨ q = 400 ∨ q = 600 ∨ q = 800) : lnLo (q + 16) ≤ lnHi (q + 16) ∧ arLo (q + 16) 5 ≤ arHi (q + 16) 5 ∧ arLo (q + 16) 239 ≤ arHi (q + 16) 239 := by
  have h := List.all_eq_true.1 v_all q (by simp; omega)
  unfold vCk lnN arN at h
  rw [lnLo_N, lnHi_N, arLo_N, arHi_N, arLo_N, arHi_N]
  simpa [and_assoc] using h
/-- A new box of a ball, in a world that is otherwise as it was. -/
def LxNew (v : World) (X Y q : Int) (k k2 : Nat) (s : Value) (wx : World) : Prop :=
  ∃ g b A n c b2 A2 n2 c2, s = .pointer (some ⟨g, 0, none⟩) ∧ Lx wx g b A n c b2 A2 n2 c2 q ∧ Zr wx b A n c X k ∧ Zr wx b2 A2 n2 c2 Y k2 ∧ v.heap.size ≤ g ∧ Below v.heap.size v wx
theorem LxNew.put {v wx : World} {X Y q : Int} {k k2 g n c n2 c2 m1 d1 m2 d2 : Nat} {b b2 p1 p2 : Bool} {A A2 B1 B2 : Option Addr} {e0 : Int} (hv : Below v.heap.size v wx) (x : Lx wx g p1 B1 m1 d1 p2 B2 m2 d2 e0) (hg : v.heap.size ≤ g) (z : Zr wx b A n c X k) (z2 : Zr wx b2 A2 n2 c2 Y k2) :
    LxNew v X Y q k k2 (.pointer (some ⟨g, 0, none⟩)) (((((wx.setCell ⟨g, 0, none⟩ (.bool b)).setCell ⟨g, 1, none⟩ (.slice A n c)).setCell ⟨g, 2, none⟩ (.bool b2)).setCell ⟨g, 3, none⟩ (.slice A2 n2 c2)).setCell ⟨g, 4, none⟩ (.int .i64 q)) :=
  ⟨g, _, _, _, _, _, _, _, _, rfl, x.put _ _ _ _ _ _ _ _ _, z.putL x, z2.putL x, hg, put_belowL hv hg _ _ _ _ _⟩
theorem LxNew.new {v wx : World} {X Y q : Int} {k k2 n c n2 c2 : Nat} {b b2 : Bool} {A A2 : Option Addr} (hv : Below v.heap.size v wx) (z : Zr wx b A n c X k) (z2 : Zr wx b2 A2 n2 c2 Y k2) :
    LxNew v X Y q k k2 (.pointer (some ⟨wx.heap.size, 0, none⟩)) (wx.alloc (.cells #[.bool b, .slice A n c, .bool b2, .slice A2 n2 c2, .int .i64 q] 27)) :=
  ⟨wx.heap.size, _, _, _, _, _, _, _, _, rfl, Lx.new _ _ _ _ _ _ _ _ _ _, z.keep (below_alloc _ _), z2.keep (below_alloc _ _), hv.size, bthen hv (below_alloc _ _)⟩
end Go.Proofs.Ytiikmjnnlckiiaa
