/-
 point: the pattern of a whole number.
-/
import Derived.Test.YtdonaominffpnaaGreatDoorElem8
import Derived.Test.YtdonaominffpnaaGreatDoorGpat
import Derived.Test.YtdonaominffpnaaGreatDoorPlook
namespace Go.Proofs.YtdonaominffpnaaGreatDoor
set_option maxRecDepth 100000
set_option linter.unusedVariables false
open Go.RowKit
variable {b : Bool} {A : Option Addr} {n c : Nat} {X e : Int} {w : World}
theorem tw_40 (q : Nat) : twP (q + 40) = twP q * 1099511627776 := by rw [tw_add]; rfl
theorem cut40 (k : Int) (q : Nat) : k * twP (q + 40) / 1099511627776 = k * twP q ∧ -(-(k * twP (q + 40)) / 1099511627776) = k * twP q := by
 rw [tw_40, ← Int.mul_assoc]
 generalize k * twP q = x
 omega
theorem en_ant : ∀ (args : Array Value) (w : World), (callFunc 198 args).run Tryz.prog w = .ok (.enter 198 args) w := enters_of Tryz.func198 (by kernel_rfl) rfl
theorem en_pot : ∀ (args : Array Value) (w : World), (callFunc 251 args).run Tryz.prog w = .ok (.enter 251 args) w := enters_of Tryz.func251 (by kernel_rfl) rfl
theorem en_exp : ∀ (args : Array Value) (w : World), (callFunc 199 args).run Tryz.prog w = .ok (.enter 199 args) w := enters_of Tryz.func199 (by kernel_rfl) rfl
theorem en_exp2 : ∀ (args : Array Value) (w : World), (callFunc 244 args).run Tryz.prog w = .ok (.enter 244 args) w := enters_of Tryz.func244 (by kernel_rfl) rfl
theorem en_log : ∀ (args : Array Value) (w : World), (callFunc 253 args).run Tryz.prog w = .ok (.enter 253 args) w := enters_of Tryz.func253 (by kernel_rfl) rfl
theorem en_log2 : ∀ (args : Array Value) (w : World), (callFunc 261 args).run Tryz.prog w = .ok (.enter 261 args) w := enters_of Tryz.func261 (by kernel_rfl) rfl
theorem ml_tw (k : Int) {q : Nat} (hk : -1100 ≤ k ∧ k ≤ 1100) (hq : q ≤ 340) : Si (k * twP q) 8 := by
 have p := tw_pos q
 have a := Int.mul_le_mul_of_nonneg_right hk.1 (Int.le_of_lt p)
 have d := Int.mul_le_mul_of_nonneg_right hk.2 (Int.le_of_lt p)
 exact sw_si (w := q) (by omega) (by omega) (by omega)
theorem At_exp2 (h : Zr w b A n c X 8) (hT : Tab w) (hn : od X = X ∧ nE X e = e) (he : 0 ≤ e ∧ e ≤ 100) (hX : X ≠ 0) (K : Int) (hK : X * 2 ^ e.toNat = K) (hk : -1000 ≤ K ∧ K ≤ 1000) {q : Nat} (hq : q ≤ 300) :
  Calls Tryz.prog 50 #[.int .i64 1, .agg #[.bool b, .slice A n c, .int .i64 e], .int .i64 (q : Nat)] w (OuA w (1 * twP q) (1 * twP q) q K) := by
 have l9 : lgI X e ≤ 9 := by
  rw [lg_of hX]
  have a := bl_shl (N := X.natAbs) (by omega) e.toNat
  have d : X.natAbs * 2 ^ e.toNat = K.natAbs := by rw [← hK, Int.natAbs_mul, pow_cast, Int.natAbs_natCast]
  have u : bl K.natAbs ≤ 10 := bl_le (by omega)
  rw [d] at a
  omega
 refine EAt_of h hT hn (by omega) hq rfl 1 132 198 244 (fun w => Efun1) (fun _ => by kernel_rfl) (fun _ => by kernel_rfl) en_ant en_exp2 (1 * twP (q + 40)) (1 * twP (q + 40)) _ _ K (Int.le_refl _) ⟨cut40 1 q, ml_tw 1 (by omega) (by omega), ml_tw 1 (by omega) (by omega)⟩ (fun w b A n c h => Etakes_any h hX (by omega) l9) (fun w b A n c h hT => ?_)
 have k := Eexp2_whole h hT he K hK hk (W := q + 40) (by omega) 0 0 ⟨rfl, rfl⟩
 have z := rw_e0 (q + 40) ((q + 40) / 4 + 10) (by omega)
 rw [z.1, z.2] at k
 rw [Int.one_mul]
 exact k
theorem lg_one (e : Int) : lgI 1 e = e := by rw [lg_of (by omega), show (1 : Int).natAbs = 1 from rfl, bl_one]; omega
theorem At_log (h : Zr w b A n c 1 8) (hT : Tab w) {q : Nat} (hq : q ≤ 300) :
  Calls Tryz.prog 50 #[.int .i64 2, .agg #[.bool b, .slice A n c, .int .i64 0], .int .i64 (q : Nat)] w (OuA w (0 * twP q) (0 * twP q) q 0) :=
 EAt_of h hT ⟨od_one, nE_one 0⟩ (by omega) hq rfl 2 135 251 253 (fun w => Efun2) (fun _ => by kernel_rfl) (fun _ => by kernel_rfl) en_pot en_log (0 * twP (q + 40)) (0 * twP (q + 40)) _ _ 0 (Int.le_refl _) ⟨cut40 0 q, ml_tw 0 (by omega) (by omega), ml_tw 0 (by omega) (by omega)⟩ (fun w b A n c h => EtakesP_any h (by omega) (by omega) (by rw [lg_one]; omega)) (fun w b A n c h hT => Elog_one h hT rfl 0 rfl rfl (by omega) _ _ ⟨Int.zero_mul _, Int.zero_mul _⟩)
theorem At_log2 (h : Zr w b A n c 1 8) (hT : Tab w) (he : -1100 ≤ e ∧ e ≤ 1100) {q : Nat} (hq : q ≤ 300) :
  Calls Tryz.prog 50 #[.int .i64 3, .agg #[.bool b, .slice A n c, .int .i64 e], .int .i64 (q : Nat)] w (OuA w (e * twP q) (e * twP q) q 0) :=
 EAt_of h hT ⟨od_one, nE_one e⟩ (by omega) hq rfl 3 136 251 261 (fun w => Efun3) (fun _ => by kernel_rfl) (fun _ => by kernel_rfl) en_pot en_log2 (e * twP (q + 40)) (e * twP (q + 40)) _ _ 0 (Int.le_refl _) ⟨cut40 e q, ml_tw e he (by omega), ml_tw e he (by omega)⟩ (fun w b A n c h => EtakesP_any h (by omega) (by omega) (by rw [lg_one]; omega)) (fun w b A n c h hT => Elog2_pow h hT rfl e rfl he (by omega) _ (Int.mul_comm _ _))
def eP (W : Nat) : Int := rwLo 0 (twP W - lnZ W) W (W / 4 + 10)
def eR (W : Nat) : Int := rwHi 0 (twP W - lnA W) W (W / 4 + 10)
def eCk (q : Nat) : Bool := match eP (q + 40), eR (q + 40) with
 | P, R => decide (P ≤ R) && decide (2 ^ q ≤ P / 1099511627776) && decide (P / 1099511627776 < 2 ^ (q + 1)) && decide (-(-R / 1099511627776) < 2 ^ (q + 1))
theorem e_300 : eCk 300 = true := by decide +kernel
theorem e_170 : eCk 170 = true := by decide +kernel
def eL (q : Nat) : Int := eP (q + 40) / 1099511627776
def eH (q : Nat) : Int := -(-eR (q + 40) / 1099511627776)
theorem e_is {q : Nat} (h : eCk q = true) : eP (q + 40) ≤ eR (q + 40) ∧ 2 ^ q ≤ eL q ∧ eL q < 2 ^ (q + 1) ∧ eH q < 2 ^ (q + 1) ∧ eL q ≤ eH q := by
 simp only [eCk, Bool.and_eq_true, decide_eq_true_eq, and_assoc] at h
 unfold eL eH
 exact ⟨h.1, h.2.1, h.2.2.1, h.2.2.2, by have := h.1; omega⟩
theorem At_exp (h : Zr w b A n c 1 8) (hT : Tab w) {q : Nat} (hq : q ≤ 300) (hc : eCk q = true) :
  Calls Tryz.prog 50 #[.int .i64 0, .agg #[.bool b, .slice A n c, .int .i64 0], .int .i64 (q : Nat)] w (OuA w (eL q) (eH q) q 1) := by
 have i := e_is hc
 have p := tw_pos q
 have u : (2 : Int) ^ q = twP q := rfl
 have v : (2 : Int) ^ (q + 1) = 2 * twP q := by rw [Int.pow_succ]; show twP q * 2 = _; omega
 rw [v, u] at i
 exact EAt_of h hT ⟨od_one, nE_one 0⟩ (by omega) hq rfl 0 131 198 199 (fun w => Efun0) (fun _ => by kernel_rfl) (fun _ => by kernel_rfl) en_ant en_exp (eP (q + 40)) (eR (q + 40)) _ _ 1 i.1 ⟨⟨rfl, rfl⟩, sw_si (w := q) (by omega) (by omega) (by omega), sw_si (w := q) (by omega) (by omega) (by omega)⟩ (fun w b A n c h => Etakes_any h (by omega) (by omega) (by rw [lg_one]; omega)) (fun w b A n c h hT => Eexp_one h rfl rfl (by omega) 1 rfl)
end Go.Proofs.YtdonaominffpnaaGreatDoor
namespace Go.Proofs.YtdonaominffpnaaGreatDoor
variable {k : Int}
set_option maxRecDepth 100000
set_option linter.unusedVariables false
open Go.RowKit
variable {A : Option Addr} {n c : Nat} {X e : Int} {w : World} {p : Nat}
theorem ga_z {T : Int} {s : Nat} (h : k * 2 ^ s = T) : gaL T T s = 0 := by
 have p : (0 : Int) < 2 ^ s := Int.pow_pos (by omega)
 have a : T / 2 ^ s = k := by rw [← h]; exact Int.mul_ediv_cancel _ (by omega)
 unfold gaL npI
 rw [a, h]
 split <;> omega
theorem bl_tw (h : k ≠ 0) (q : Nat) : zrB (k * twP q) (k * twP q) = false ∧ (bl (nrI (k * twP q) (k * twP q)).natAbs : Int) - 1 - q = bl k.natAbs - 1 := by
 have p := tw_pos q
 have a := bl_shl (N := k.natAbs) (by omega) q
 have e : (k * twP q).natAbs = k.natAbs * 2 ^ q := by rw [Int.natAbs_mul]; show _ * ((2 : Int) ^ q).natAbs = _; rw [pow_cast, Int.natAbs_natCast]
 have ne : k * twP q ≠ 0 := Int.mul_ne_zero h (by omega)
 refine ⟨by unfold zrB; simp only [decide_eq_false_iff_not]; omega, ?_⟩
 unfold nrI
 rw [ite_self, e, a]
 omega
theorem i300 {f : Int} {v : Value} {P R K : Int} (h : Calls Tryz.prog 50 #[.int .i64 f, v, .int .i64 ((300 : Nat) : Int)] w (OuA w P R ((300 : Nat) : Int) K)) : Calls Tryz.prog 50 #[.int .i64 f, v, .int .i64 300] w (OuA w P R 300 K) := by rw [show ((300 : Nat) : Int) = 300 from rfl] at h; exact h
theorem Lk_pow (hT : Tab w) {m : Nat} (hm : 1 ≤ m ∧ m ≤ 128) (hp : Pat p X e) (x : Int) (hx : x = p) (f K k : Int) (hk : k ≠ 0 ∧ -1000 ≤ k ∧ k ≤ 1000) (hK : -1100 ≤ K ∧ K ≤ 1100)
  (hAt : ∀ (q : Nat) w A n c, q ≤ 300 → Zn w A n c X 2 → Tab w → Calls Tryz.prog 50 #[.int .i64 f, .agg #[.bool (ngB X), .slice A n c, .int .i64 e], .int .i64 (q : Nat)] w (OuA w (k * twP q) (k * twP q) q K)) :
  ∃ (q : Nat) (S M : Int), Calls Tryz.prog 15 #[.int .i64 f, .int .u64 x, .int .i64 (m : Nat)] w (LkPost w (k * twP q) (k * twP q) q K (bl k.natAbs - 1 + K) S 0 M true) := by
 have p1 := bl_pos (N := k.natAbs) (by omega)
 have u : bl k.natAbs ≤ 10 := bl_le (by omega)
 obtain ⟨s, hs⟩ : ∃ s : Nat, ((m + 160 : Nat) : Int) - 53 + (bl k.natAbs - 1) = s := ⟨(((m + 160 : Nat) : Int) - 53 + (bl k.natAbs - 1)).toNat, by omega⟩
 refine ⟨m + 160, s, _, Look_some hT f m (by omega) (k * twP 300) (k * twP 300) K (fun w A n c h hT => i300 (hAt 300 w A n c (by omega) h hT)) (Int.le_refl _) hp x hx (bl_tw hk.1 300).1 (bl k.natAbs - 1) (bl_tw hk.1 300).2 (m + 160) (by omega) (by omega) (k * twP (m + 160)) (k * twP (m + 160)) K (fun w A n c h hT => hAt (m + 160) w A n c (by omega) h hT) (Int.le_refl _) (bl_tw hk.1 _).1 (bl k.natAbs - 1) (bl_tw hk.1 _).2 s hs (by omega) (by omega) _ rfl 0 _ ⟨ga_z (k := k * 2 ^ (m + 160 - s)) ?_, rfl⟩ true ?_⟩
 ·rw [Int.mul_assoc]
  show _ = k * 2 ^ (m + 160)
  rw [← Int.pow_add, show m + 160 - s + s = m + 160 by omega]
 ·rw [show (0 : Int).natAbs = 0 from rfl, show bl 0 = 0 by unfold bl; rw [dg_zero]; rfl]
  exact decide_eq_true (by omega)
theorem Lk_nul (hT : Tab w) {m : Nat} (hm : 1 ≤ m ∧ m ≤ 128) (hp : Pat p X e) (x : Int) (hx : x = p) (f : Int)
  (hAt : ∀ w A n c, Zn w A n c X 2 → Tab w → Calls Tryz.prog 50 #[.int .i64 f, .agg #[.bool (ngB X), .slice A n c, .int .i64 e], .int .i64 ((300 : Nat) : Int)] w (OuA w (0 * twP 300) (0 * twP 300) (300 : Nat) 0)) :
  Calls Tryz.prog 15 #[.int .i64 f, .int .u64 x, .int .i64 (m : Nat)] w (LkPost w 0 0 300 0 0 0 0 0 true) := by
 rw [Int.zero_mul] at hAt
 exact Look_zero hT f m (by omega) 0 0 0 (fun w A n c h hT => i300 (hAt w A n c h hT)) (Int.le_refl _) hp x hx rfl
theorem pat_1 : Pat 4607182418800017408 1 0 := pat_first (e := 0) (by omega)
theorem pat_3 : Pat 4613937818241073152 3 0 := by
 have k := pat_of (m := 6755399441055744) (e := -51) false (by omega) (by omega) (by omega) (b := 4613937818241073152) (by rw [if_neg (by simp)]; omega)
 have z : zi false 6755399441055744 = 3 * 2 ^ 51 := rfl
 rw [z, od_shl, nE_shl, show od 3 = 3 by decide] at k
 exact k
theorem Lk_3 (hT : Tab w) : ∃ (q : Nat) (S M : Int), Calls Tryz.prog 15 #[.int .i64 1, .int .u64 4613937818241073152, .int .i64 128] w (LkPost w (1 * twP q) (1 * twP q) q 3 3 S 0 M true) := by
 obtain ⟨q, S, M, k⟩ := Lk_pow hT (m := 128) (by omega) pat_3 4613937818241073152 rfl 1 3 1 (by omega) (by omega) (fun q w A n c hq h hT => At_exp2 (h.wide (by omega)).zr hT ⟨by decide, by decide⟩ (by omega) (by omega) 3 rfl (by omega) hq)
 rw [show (1 : Int).natAbs = 1 from rfl, bl_one] at k
 exact ⟨q, S, M, k⟩
theorem Lk_1 (hT : Tab w) : Calls Tryz.prog 15 #[.int .i64 2, .int .u64 4607182418800017408, .int .i64 5] w (LkPost w 0 0 300 0 0 0 0 0 true) :=
 Lk_nul hT (m := 5) (by omega) pat_1 4607182418800017408 rfl 2 (fun w A n c h hT => At_log (h.wide (by omega)).zr hT (q := 300) (by omega))
theorem e_gap : 2 ^ 108 ≤ gaL (eL 170) (eH 170) 117 := by decide +kernel
theorem bl_e {q : Nat} (h : eCk q = true) : zrB (eL q) (eH q) = false ∧ (bl (nrI (eL q) (eH q)).natAbs : Int) - 1 - q = 0 := by
 have i := e_is h
 have p : (0 : Int) < 2 ^ q := Int.pow_pos (by omega)
 refine ⟨by unfold zrB; simp only [decide_eq_false_iff_not]; omega, ?_⟩
 unfold nrI
 rw [if_neg (by omega)]
 obtain ⟨N, hN⟩ : ∃ N : Nat, eL q = N := ⟨(eL q).toNat, by omega⟩
 rw [hN] at i ⊢
 rw [Int.natAbs_natCast]
 rw [pow_cast, pow_cast] at i
 have a := bl_ge (n := N) (k := q) (by omega)
 have d := bl_le (n := N) (k := q + 1) (by omega)
 omega
theorem Lk_e (hT : Tab w) : ∃ P R q S L M : Int, Calls Tryz.prog 15 #[.int .i64 0, .int .u64 4607182418800017408, .int .i64 10] w (LkPost w P R q 1 1 S L M false) := by
 have g := e_gap
 refine ⟨_, _, _, _, _, _, Look_some hT 0 10 (by omega) (eL 300) (eH 300) 1 (fun w A n c h hT => i300 (At_exp (h.wide (by omega)).zr hT (q := 300) (by omega) e_300)) (e_is e_300).2.2.2.2 pat_1 4607182418800017408 rfl (bl_e e_300).1 0 (bl_e e_300).2 170 (by omega) (by omega) (eL 170) (eH 170) 1 (fun w A n c h hT => At_exp (h.wide (by omega)).zr hT (q := 170) (by omega) e_170) (e_is e_170).2.2.2.2 (bl_e e_170).1 0 (bl_e e_170).2 117 (by omega) (by omega) (by omega) 1 rfl _ _ ⟨rfl, rfl⟩ false ?_⟩
 obtain ⟨N, hN⟩ : ∃ N : Nat, gaL (eL 170) (eH 170) 117 = N := ⟨(gaL (eL 170) (eH 170) 117).toNat, by have : (0 : Int) < 2 ^ 108 := Int.pow_pos (by omega); omega⟩
 rw [hN] at g ⊢
 rw [Int.natAbs_natCast]
 rw [pow_cast] at g
 have a := bl_ge (n := N) (k := 108) (by omega)
 exact decide_eq_false (by omega)
end Go.Proofs.YtdonaominffpnaaGreatDoor
namespace Go.Proofs.YtdonaominffpnaaGreatDoor
variable {n : Int} {w : World}
set_option maxRecDepth 100000
set_option linter.unusedVariables false
open Go.RowKit
def pwN (n : Int) : Nat := (if ngB n then 9223372036854775808 else 0) + ((0 + bl n.natAbs - 1 - 52 + 1074 : Int).toNat * 4503599627370496 + n.natAbs * 2 ^ (52 - (0 + bl n.natAbs - 1 : Int)).toNat)
theorem Of_whole (h0 : n ≠ 0) (hn : -1000 ≤ n ∧ n ≤ 1000) {A : Option Addr} {m c : Nat} {w : World} (h : Zn w A m c (od n) 2) (hT : Tab w) :
  Calls Tryz.prog 27 #[.agg #[.bool (ngB (od n)), .slice A m c, .int .i64 (nE n 0)]] w fun en w' => en = .returned (.tuple #[.int .u64 (pwN n : Nat), .int .i64 0]) ∧ Below w.heap.size w w' := by
 obtain ⟨⟨t0, t1⟩, t2, t3, _⟩ := pat_whole h0 hn rfl
 have u := (od_nf (X := n) (e := 0))
 have l := lg_nf (e := 0) h0
 rw [lg_of (od_ne h0)] at l
 have ne := nE_ne h0 0
 have tz9 : nE n 0 ≤ 9 := by have := bl_pos (N := (od n).natAbs) (by have := od_ne h0; omega); omega
 have k := Of_at (e := nE n 0) h.zr hT (by omega) ⟨by omega, by omega⟩ (od_ne h0) (0 + bl n.natAbs - 1) (0 + bl n.natAbs - 1 - 52) (by omega) (by omega) (by omega) (by rw [u.2]; omega) (n.natAbs * 2 ^ (52 - (0 + bl n.natAbs - 1 : Int)).toNat) (by rw [u.1, u.2]; exact t3)
 rw [ngB_od] at k
 unfold pwN
 rw [ngB_od]
 exact k
theorem pw_pat (h0 : n ≠ 0) (hn : -1000 ≤ n ∧ n ≤ 1000) : Pat (pwN n) (od n) (nE n 0) := by unfold pwN; exact (pat_whole h0 hn rfl).2.2.2
theorem bl_3 : bl 3 = 2 := by
 have h1 : bl 3 ≤ 2 := bl_le (by omega)
 have h2 : 1 < bl 3 := bl_ge (k := 1) (by omega)
 omega
theorem pw_3 : pwN 3 = 4613937818241073152 := by
 unfold pwN
 rw [show (3 : Int).natAbs = 3 from rfl, bl_3, show ngB 3 = false from rfl, if_neg (by simp), show (0 + ((2 : Nat) : Int) - 1 - 52 + 1074).toNat = 1023 from rfl, show (52 - (0 + ((2 : Nat) : Int) - 1)).toNat = 51 from rfl]
theorem Lk_log2 (hT : Tab w) {k : Int} (hk : -1000 ≤ k ∧ k ≤ 1000) {m : Nat} (hm : 1 ≤ m ∧ m ≤ 128) : ∃ P R q K E S M : Int, Calls Tryz.prog 15 #[.int .i64 3, .int .u64 (((k + 1023).toNat * 4503599627370496 : Nat) : Int), .int .i64 (m : Nat)] w (LkPost w P R q K E S 0 M true) := by
 have hp := pat_first (e := k) (by omega)
 rcases (show k = 0 ∨ k ≠ 0 by omega) with h0 | h0
 ·subst h0
  exact ⟨_, _, _, _, _, _, _, Lk_nul hT hm hp _ rfl 3 (fun w A n c h hT => At_log2 (h.wide (by omega)).zr hT (e := 0) (by omega) (q := 300) (by omega))⟩
 ·obtain ⟨q, S, M, x⟩ := Lk_pow hT hm hp _ rfl 3 0 k ⟨h0, hk⟩ (by omega) (fun q w A n c hq h hT => At_log2 (h.wide (by omega)).zr hT (e := k) (by omega) hq)
  exact ⟨_, _, _, _, _, S, M, x⟩
theorem Lk_exp2 (hT : Tab w) {k : Int} (h0 : k ≠ 0) (hk : -1000 ≤ k ∧ k ≤ 1000) {m : Nat} (hm : 1 ≤ m ∧ m ≤ 128) : ∃ P R q S M : Int, Calls Tryz.prog 15 #[.int .i64 1, .int .u64 (pwN k : Nat), .int .i64 (m : Nat)] w (LkPost w P R q k k S 0 M true) := by
 have ne := nE_ne h0 0
 have l := lg_nf (e := 0) h0
 rw [lg_of (od_ne h0)] at l
 have u : bl k.natAbs ≤ 10 := bl_le (by omega)
 have p1 := bl_pos (N := (od k).natAbs) (by have := od_ne h0; omega)
 have e9 : nE k 0 ≤ 9 := by omega
 obtain ⟨q, S, M, x⟩ := Lk_pow hT hm (pw_pat h0 hk) _ rfl 1 k 1 (by omega) (by omega) (fun q w A n c hq h hT => At_exp2 (h.wide (by omega)).zr hT od_nf (by omega) (od_ne h0) k (by rw [ne, Int.zero_add, Int.toNat_natCast]; exact (tz_spec h0).1.symm) hk hq)
 rw [show (1 : Int).natAbs = 1 from rfl, bl_one, show ((1 : Nat) : Int) - 1 + k = k by omega] at x
 exact ⟨_, _, _, S, M, x⟩
theorem od_of (k : Int) : od (cM k 0) = od k ∧ nE (cM k 0) (cE 0) = nE k 0 := by rw [(c_yes (X := k) (e := 0) (by omega)).1, (c_yes (X := k) (e := 0) (by omega)).2]; exact ⟨rfl, rfl⟩
end Go.Proofs.YtdonaominffpnaaGreatDoor
