/-
  The law ZedTexts holds: for every input the call returns true, and each argument reads afterwards as it read before. No condition.
-/
import Derived.Test.YtcoidcbbdibnaaaRdm
import Derived.Test.YtcoidcbbdibnaaaZref
import Derived.Test.YtcoidcbbdibnaaaZtext
import Derived.Test.YtcoidcbbdibnaaaZshown
import Derived.Test.YtcoidcbbdibnaaaZparse
import Derived.Test.YtcoidcbbdibnaaaZrparse
import Derived.Test.YtcoidcbbdibnaaaSmall
import Derived.ProofKit
import Derived.SizedLaws
import Derived.OpenShut
import Derived.Test.YtcoidcbbdibnaaaZint
import Derived.Lib.SmallJoins
import Derived.ShutString
namespace Go.Proofs.Ytcoidcbbdibnaaa
section
open Go.RowKit
set_option linter.unusedVariables false

theorem RDivMod_any (A A2 : Option Addr) (n c n2 c2 : Nat) (l m : List Int) (w : World) (h : Rd w w.heap.size A n c l) (h2 : Rd w w.heap.size A2 n2 c2 m) (hn : n ≤ 1000000) (hn2 : n2 ≤ 1000000) (hM0 : 0 < vl Wd m) :
    Calls Try.prog 47 #[.slice A n c, .slice A2 n2 c2] w (DmPost w (vl Wd l) (vl Wd m)) := by
  rcases Nat.lt_or_ge 1 (dg Hb (vl Wd m)).length with h1 | h1
  · exact RDivMod_many A A2 n c n2 c2 l m w h h2 hn hn2 h1
  · refine RDivMod_one A A2 n c n2 c2 l m w h h2 hn hn2 ?_
    rcases Nat.eq_zero_or_pos (dg Hb (vl Wd m)).length with h0 | h0
    · have := (dg_eq_nil Hb2).1 (List.eq_nil_of_length_eq_zero h0)
      omega
    · omega
end
end Go.Proofs.Ytcoidcbbdibnaaa
namespace Go.Proofs.Ytcoidcbbdibnaaa
section
open Go.RowKit
set_option linter.unusedVariables false

/-- A number's decimal digits, none for nought. -/
def dz (M : Nat) : List UInt8 := if M = 0 then [] else decL M
theorem dz_zero : dz 0 = [] := rfl
theorem dz_pos {M : Nat} (h : 0 < M) : dz M = decL M := by unfold dz; rw [if_neg (by omega)]
theorem dz_step {M : Nat} (h : 0 < M) : dz M = dz (M / 10) ++ [digC (M % 10)] := by
  rw [dz_pos h]
  by_cases h1 : M < 10
  · rw [decL_small h1, show M / 10 = 0 by omega, dz_zero, show M % 10 = M by omega]; rfl
  · rw [decL_big (by omega), dz_pos (by omega)]
theorem decL_len {k : Nat} : ∀ {N : Nat}, N < 10 ^ (k + 1) → (decL N).length ≤ k + 1 := by
  induction k with
  | zero => intro N h; rw [decL_small (by omega)]; simp
  | succ k ih =>
    intro N h
    by_cases h1 : N < 10
    · rw [decL_small h1]; simp
    · rw [decL_big (by omega)]
      have := ih (N := N / 10) (by rw [Nat.div_lt_iff_lt_mul (by omega), ← Nat.pow_succ]; exact h)
      simp; omega
theorem decL_sm {N k : Nat} (h : Sm N k) : (decL N).length ≤ 20 * k + 1 := by
  refine decL_len (k := 20 * k) ?_
  refine Nat.lt_of_lt_of_le h ?_
  rw [Nat.pow_succ, Nat.pow_mul]
  have : Wd ^ k ≤ (10 ^ 20) ^ k := Nat.pow_le_pow_left (by rw [Wd_eq]; omega) _
  omega
def strN : Value → Nat | .string s => s.size | _ => 0
theorem dig_byte {r : Nat} (h : r < 10) : IntKind.u8.wrap (r : Int) = (r : Int) ∧ IntKind.u8.wrap (48 + (r : Int)) = ((digC r).toNat : Int) := by
  rw [digC_toNat h]
  constructor <;> (simp only [IntKind.wrap, IntKind.signed, IntKind.bits]; simp; omega)
/-- What the loop of Text keeps. -/
def TxRel (w : World) (N g : Nat) (b : Bool) (A : Option Addr) (n c : Nat) (mv sv : Value) (wr : World) : Prop :=
  ∃ M B m d, ∃ S : ByteArray, mv = .slice B m d ∧ sv = .string S ∧ Rd wr wr.heap.size B m d (dg Wd M) ∧ dz M ++ S.data.toList = dz N ∧ m ≤ 1000 ∧ Bx wr g b A n c ∧ Below w.heap.size w wr
theorem byte_new (w : World) (x : UInt8) : Bk8 (w.alloc (.cells #[.int .u8 (x.toNat : Int)] 5)) w.heap.size [x] := heap_alloc_new w _
theorem txt_mk {S : ByteArray} {l : List UInt8} (h : S.data.toList = l) : S = ⟨l.toArray⟩ := bytes_ext h
theorem cons_text (x : UInt8) (S : ByteArray) : ((⟨[x].toArray⟩ : ByteArray) ++ S).data.toList = x :: S.data.toList := by simp [ByteArray.data_append]
theorem cons_size (x : UInt8) (S : ByteArray) : ((⟨[x].toArray⟩ : ByteArray) ++ S).size = S.size + 1 := by
  rw [ByteArray.size_append]; show 1 + S.size = _; omega
theorem dg_len0 {M m : Nat} (h : (dg Wd M).length = m) : m = 0 ↔ M = 0 := by
  constructor
  · intro h0; subst h0; exact (dg_eq_nil Wd2).1 (List.eq_nil_of_length_eq_zero h)
  · intro h0; subst h0; rw [dg_zero] at h; exact h.symm
theorem dg_ten {r : Nat} (h0 : 0 < r) (h1 : r < 10) : dg Wd r = [(r : Int)] := by
  have hW : r < Wd := by rw [Wd_eq]; omega
  have h2 := dg_len_le (n := r) (k := 1) Wd2 (by rw [Nat.pow_one]; exact hW)
  have h3 : (dg Wd r).length ≠ 0 := fun h => by have := (dg_len0 (M := r) rfl).1 h; omega
  have h4 : (dg Wd r).length = 1 := by omega
  have h5 := one_val h4 (by omega)
  have h6 := (Lim_dg Wd2 r).get (show 0 < (dg Wd r).length by omega)
  match hl : dg Wd r, h4 with
  | [x], _ =>
    have e : (dg Wd r)[0]'(by omega) = x := by simp [hl]
    rw [e] at h5 h6
    rw [h5, Int.toNat_of_nonneg h6.1]

set_option maxRecDepth 100000 in
set_option maxHeartbeats 4000000 in
theorem RText_any {b : Bool} {A : Option Addr} {n c : Nat} {X : Int} {j : Nat} {w : World} (h : Zr w b A n c X j) (hj : j ≤ 100) :
    Calls Try.prog 24 #[.agg #[.bool b, .slice A n c]] w fun e w' => e = .returned (.string ⟨(txL X).toArray⟩) ∧ Below w.heap.size w w' := by
  obtain ⟨l, h, rfl, hn⟩ := h
  have hs := Sm.of h hn
  have hlen := decL_sm hs
  have HSM := Lib.hid hs
  generalize hN : vl Wd l = N at *
  have HN := Lib.hid hN; clear hN hs
  go_enter Try.func24, Try.ntmps24
  go_wp2_with fail
  obtain ⟨hb, x_a⟩ := box1 w b A n c
  generalize w.alloc (.cells #[.bool b, .slice A n c] 24) = v1 at *
  replace h := h.go hb
  have q_a0 := x_a.c0; have q_a1 := x_a.c1; have f_a0 := x_a.fr 0; have f_a1 := x_a.fr 1
  go_wp2_with fail
  refine (RNorm_any _ _ _ _ _ h (by omega)).mono ?_
  rintro e v2 ⟨A1, n1, c1, rfl, g1, hb1⟩
  rw [HN.out] at g1
  replace x_a := x_a.keep hb1
  replace hb := bthen hb hb1
  clear hb1 h
  replace q_a0 := x_a.c0; replace q_a1 := x_a.c1; replace f_a0 := x_a.fr 0; replace f_a1 := x_a.fr 1
  have hl1 := g1.len
  have hn1 : n1 ≤ 1000 := by have := g1.small HSM.out; omega
  have HZ := Lib.hid (dg_len0 hl1)
  clear hl1
  rcases Nat.eq_zero_or_pos N with h0 | h0
  · have hn0 : n1 = 0 := HZ.out.2 h0
    subst hn0
    subst h0
    have htx : txL (zi b 0) = [48] := by unfold txL zi; cases b <;> simp [decL_small, digC]
    have HTX := Lib.hid htx; clear htx
    go_wp2
    go_ret
    exact ⟨congrArg (fun x => Ending.returned (.string x)) (show ByteArray.mk #[48] = ⟨(txL (zi b 0)).toArray⟩ by rw [HTX.out]), hb⟩
  · have hn0 : ((n1 : Int) == 0) = false := by
      rw [beq_eq_false_iff_ne]; intro e; have := HZ.out.1 (by omega); omega
    have hdz := dz_pos h0
    have htx : txL (zi b N) = (if b then [45] else []) ++ dz N := by
      rw [hdz]; unfold txL; rw [zi_abs]; congr 1; unfold zi; cases b <;> simp <;> omega
    have HTX := Lib.hid htx
    have hdl : (dz N).length ≤ 20 * j + 1 := by rw [hdz]; exact hlen
    have HDL := Lib.hid hdl
    clear htx hdz hdl hlen HZ
    go_wp2_with fail
    go_loopw [3, 4, 5, 6, 7, 8] (fun mv sv _ _ _ _ wr => TxRel w N w.heap.size b A n c mv sv wr) (fun _ sv _ _ _ _ _ => (dz N).length - strN sv)
    case atStart => exact ⟨N, A1, n1, c1, _, rfl, rfl, g1, by simp, hn1, x_a, hb⟩
    case round =>
      clear g1 hb x_a q_a0 q_a1 f_a0 f_a1 hn0
      obtain ⟨M, B, m, d, S, rfl, rfl, g, hS, hm, x_a, hb⟩ := hrel
      have HS := Lib.hid hS
      have hl := g.len
      have q_a0 := x_a.c0; have q_a1 := x_a.c1; have f_a0 := x_a.fr 0; have f_a1 := x_a.fr 1
      have hSz : S.size ≤ 20 * j + 1 := by
        have e1 : S.data.toList.length = S.size := by rw [Array.length_toList]; rfl
        have e2 := congrArg List.length hS
        rw [List.length_append] at e2
        have := HDL.out
        omega
      clear hS
      rcases Nat.eq_zero_or_pos M with hM | hM
      · have hm0 : m = 0 := (dg_len0 hl).2 hM
        subst hm0
        subst hM
        have hS2 : S = ⟨(dz N).toArray⟩ := bytes_ext (by have := HS.out; rw [dz_zero, List.nil_append] at this; exact this)
        have HS2 := Lib.hid hS2
        clear hS2 hl
        cases b
        · go_wp2
          go_ret
          exact ⟨by rw [HTX.out]; exact congrArg (fun x => Ending.returned (.string x)) HS2.out, hb⟩
        · have hres : (⟨#[45]⟩ : ByteArray) ++ S = ⟨([45] ++ dz N).toArray⟩ := neg_text HS2.out
          have HR := Lib.hid hres; clear hres
          go_wp2
          go_ret
          exact ⟨by rw [HTX.out]; exact congrArg (fun x => Ending.returned (.string x)) HR.out, hb⟩
      · have hm0 : 0 < m := by
          rcases Nat.eq_zero_or_pos m with h1 | h1
          · have := (dg_len0 hl).1 h1; omega
          · exact h1
        have hMs : Sm M 1000 := by
          have := Sm.of g hm
          rw [vl_dg Wd2] at this; exact this
        have HMS := Lib.hid hMs; clear hMs hl
        go_wp2_with fail
        have hb1 := below_alloc wr (.cells #[.int .u64 10] 29)
        have u1 := lay1 wr 10 (lm_small (by omega) (by omega))
        replace g := g.go hb1
        replace x_a := x_a.keep hb1
        replace hb := bthen hb hb1
        clear hb1 q_a0 q_a1 f_a0 f_a1
        generalize wr.alloc (.cells #[.int .u64 10] 29) = v3 at *
        have q_a0 := x_a.c0; have q_a1 := x_a.c1; have f_a0 := x_a.fr 0; have f_a1 := x_a.fr 1
        with_reducible refine (RDivMod_any _ _ _ _ _ _ _ _ _ g u1 (by omega) (by omega) (by rw [vl_one]; decide)).mono ?_
        rintro e v4 ⟨Aq, nq, cq, Ar, nr, cr, rfl, gq, gr, hb1⟩
        rw [vl_dg Wd2, vl_one] at gq gr
        have e10 : (10 : Int).toNat = 10 := rfl
        rw [e10] at gq gr
        replace x_a := x_a.keep hb1
        replace hb := bthen hb hb1
        clear hb1 g u1 e10
        replace q_a0 := x_a.c0; replace q_a1 := x_a.c1; replace f_a0 := x_a.fr 0; replace f_a1 := x_a.fr 1
        have hstep := dz_step hM
        have hnq : nq ≤ 1000 := gq.small (Nat.lt_of_le_of_lt (Nat.div_le_self _ _) HMS.out)
        have hnext : dz (M / 10) ++ ((⟨[digC (M % 10)].toArray⟩ : ByteArray) ++ S).data.toList = dz N := by
          rw [cons_text]
          have := HS.out
          rw [hstep, List.append_assoc] at this
          exact this
        have hms : ((⟨[digC (M % 10)].toArray⟩ : ByteArray) ++ S).size = S.size + 1 := cons_size _ _
        have HNX := Lib.hid hnext; have HMS2 := Lib.hid hms
        have hr10 : M % 10 < 10 := Nat.mod_lt _ (by omega)
        obtain ⟨by1, by2⟩ := dig_byte hr10
        have hcv := conv_back (n := 1) (w := v4.alloc (.cells #[.int .u8 ((digC (M % 10)).toNat : Int)] 5)) (byte_new v4 (digC (M % 10))) rfl
        have hfin : ∀ W', Below v4.heap.size v4 W' → TxRel w N w.heap.size b A n c (.slice Aq nq cq) (.string ((⟨[digC (M % 10)].toArray⟩ : ByteArray) ++ S)) W' := fun W' hw => ⟨_, _, _, _, _, rfl, rfl, gq.go hw, HNX.out, hnq, x_a.keep hw, bthen hb hw⟩
        have hlt : (dz N).length - (S.size + 1) < (dz N).length - S.size := by
          have e1 : S.data.toList.length = S.size := by rw [Array.length_toList]; rfl
          have e2 := congrArg List.length HS.out
          rw [hstep, List.length_append, List.length_append] at e2
          simp at e2
          omega
        have HF := Lib.hid hfin; have HLT := Lib.hid hlt
        clear hstep hnext hms hfin hlt HS HNX gq
        generalize M % 10 = r at *
        rcases Nat.eq_zero_or_pos r with hr | hr
        · have hnr : nr = 0 := (dg_len0 gr.len).2 hr
          subst hnr
          have hd0 : ((digC r).toNat : Int) = 48 := by rw [hr]; rfl
          rw [hd0] at hcv
          clear gr by1 by2 hd0
          generalize hdig : digC r = dg0 at *
          go_wp2
          go_roundw
          case rel => exact HF.out _ (below_alloc _ _)
          case measure => exact (show (dz N).length - ((⟨[dg0].toArray⟩ : ByteArray) ++ S).size < (dz N).length - S.size by rw [HMS2.out]; exact HLT.out)
        · rw [dg_ten hr (by omega)] at gr
          have hnr := gr.len
          simp at hnr
          subst hnr
          obtain ⟨gb, go, rfl, hgb, hgc⟩ := gr.at_ (by omega)
          have hc0 := hgc 0 (by simp)
          simp at hc0
          clear hgc gr
          generalize hdig : digC r = dg0 at *
          go_wp2
          go_roundw
          case rel => exact HF.out _ (below_alloc _ _)
          case measure => exact (show (dz N).length - ((⟨[dg0].toArray⟩ : ByteArray) ++ S).size < (dz N).length - S.size by rw [HMS2.out]; exact HLT.out)
end
end Go.Proofs.Ytcoidcbbdibnaaa
namespace Go.Proofs.Ytcoidcbbdibnaaa
section
open Go.RowKit
set_option linter.unusedVariables false

theorem Zn.nought (w : World) (k : Nat) : Zn w none 0 0 0 k := ⟨by show Rd w w.heap.size none 0 0 (dg Wd 0); rw [dg_zero]; exact Rd.nil, Nat.zero_le _⟩
theorem Zequal_nought {w : World} :
    Calls Try.prog 8 #[.agg #[.bool false, .slice none 0 0], .agg #[.bool false, .slice none 0 0]] w fun e w' => e = .returned (.bool true) ∧ Below w.heap.size w w' :=
  Zequal_any (X := 0) (Y := 0) (Zn.nought w 0) (Zn.nought w 0) rfl
theorem PsPost.yes {w : World} {l : List UInt8} {e : Ending} {w' : World} (h : PsPost w l e w') (hok : okD (sgT l) = true) : RdPost w (zi (sgB l) (dv (sgT l))) 1000 e w' := by
  rcases h with h | h
  · exact h.2
  · rw [hok] at h; exact absurd h.1 (by simp)
theorem PsPost.no {w : World} {l : List UInt8} {e : Ending} {w' : World} (h : PsPost w l e w') (hok : okD (sgT l) = false) : e = .returned (.tuple #[.agg #[.bool false, .slice none 0 0], .bool false]) ∧ Below w.heap.size w w' := by
  rcases h with h | h
  · rw [hok] at h; exact absurd h.1 (by simp)
  · exact h.2
theorem RParse_yes (s : ByteArray) {w : World} (hs : s.size ≤ 900) (hok : okD (sgT s.data.toList) = true) :
    Calls Try.prog 22 #[.string s] w (RdPost w (zi (sgB s.data.toList) (dv (sgT s.data.toList))) 1000) := (RParse_zed s hs).mono fun e w' h => h.yes hok
theorem RParse_no (s : ByteArray) {w : World} (hs : s.size ≤ 900) (hok : okD (sgT s.data.toList) = false) :
    Calls Try.prog 22 #[.string s] w fun e w' => e = .returned (.tuple #[.agg #[.bool false, .slice none 0 0], .bool false]) ∧ Below w.heap.size w w' := (RParse_zed s hs).mono fun e w' h => h.no hok

set_option maxRecDepth 100000 in
set_option maxHeartbeats 16000000 in
theorem ZedTexts_any {b : Bool} {A : Option Addr} {n c : Nat} {l : List Int} {w : World} (h : Rd w w.heap.size A n c l) {s : ByteArray} (_hs : s.size ≤ maxLen) :
    Calls Try.prog 4 #[.agg #[.bool b, .slice A n c], .string s] w fun e w' => e = .returned (.bool true) ∧ Below w.heap.size w w' := by
  go_enter Try.func4, Try.ntmps4
  go_wp2_with fail
  obtain ⟨hb, x_a⟩ := box1 w b A n c
  generalize w.alloc (.cells #[.bool b, .slice A n c] 24) = v1 at *
  replace h := h.go hb
  have q_a0 := x_a.c0; have q_a1 := x_a.c1; have f_a0 := x_a.fr 0; have f_a1 := x_a.fr 1
  go_wp2_with fail
  with_reducible refine (Zshown_any _).mono ?_
  rintro e v2 ⟨rfl, hb1⟩
  replace x_a := x_a.keep hb1
  replace h := h.go hb1
  replace hb := bthen hb hb1
  clear hb1
  replace q_a0 := x_a.c0; replace q_a1 := x_a.c1; replace f_a0 := x_a.fr 0; replace f_a1 := x_a.fr 1
  go_wp2_with fail
  with_reducible refine (Zcut_at h 6 6 rfl (by omega)).mono ?_
  rintro e v3 ⟨Aa_, na_, ca_, rfl, pa, ka, hb1⟩
  replace x_a := x_a.keep hb1
  replace h := h.go hb1
  replace hb := bthen hb hb1
  clear hb1
  replace q_a0 := x_a.c0; replace q_a1 := x_a.c1; replace f_a0 := x_a.fr 0; replace f_a1 := x_a.fr 1
  obtain ⟨A, za⟩ : ∃ X, Zr _ b Aa_ na_ ca_ X 6 := ⟨_, _, pa, rfl, ka⟩
  clear pa ka
  clear h
  by_cases hlong : 100 < s.size
  · have hx : (100 : Int) < s.size := by omega
    obtain ⟨t, ht⟩ : ∃ t, s.extract 0 100 = t := ⟨_, rfl⟩
    have hts : t.size ≤ 100 := by rw [← ht, ByteArray.size_extract]; omega
    cases hok : okD (sgT t.data.toList)
    · have HOK := Lib.hid hok; clear hok
      go_wp2_with fail
      replace za := za.put (b' := b) (A' := Aa_) (n' := na_) (c' := ca_) x_a
      replace hb := put_below (g := w.heap.size) hb (by omega) (.bool b) (.slice Aa_ na_ ca_)
      replace x_a := x_a.put b Aa_ na_ ca_
      clear q_a0 q_a1 f_a0 f_a1
      generalize (v3.setCell ⟨w.heap.size, 0, none⟩ (.bool b)).setCell ⟨w.heap.size, 1, none⟩ (.slice Aa_ na_ ca_) = v4 at *
      have q_a0 := x_a.c0; have q_a1 := x_a.c1; have f_a0 := x_a.fr 0; have f_a1 := x_a.fr 1
      with_reducible refine (ZParse_no t (by omega) HOK.out).mono ?_
      rintro e v5 ⟨rfl, hb1⟩
      replace x_a := x_a.keep hb1
      replace za := za.keep hb1
      replace hb := bthen hb hb1
      clear hb1
      replace q_a0 := x_a.c0; replace q_a1 := x_a.c1; replace f_a0 := x_a.fr 0; replace f_a1 := x_a.fr 1
      have y_a := (x_a.alloc (.cells #[.bool false, .slice none 0 0] 24)); have yq_a0 := y_a.c0; have yq_a1 := y_a.c1
      go_wp2_with fail
      clear y_a yq_a0 yq_a1
      have hb1 := below_alloc v5 (.cells #[.bool false, .slice none 0 0] 24)
      have l_a_x := x_a.lt
      have x_x := Bx.new v5 false none 0 0
      have e_x : w.heap.size ≤ v5.heap.size := hb.size
      replace x_a := x_a.keep hb1
      replace za := za.keep hb1
      replace hb := bthen hb hb1
      clear hb1
      replace q_a0 := x_a.c0; replace q_a1 := x_a.c1; replace f_a0 := x_a.fr 0; replace f_a1 := x_a.fr 1
      clear q_a0 q_a1 f_a0 f_a1
      generalize v5.alloc (.cells #[.bool false, .slice none 0 0] 24) = v6 at *
      have q_a0 := x_a.c0; have q_a1 := x_a.c1; have f_a0 := x_a.fr 0; have f_a1 := x_a.fr 1
      have q_x0 := x_x.c0; have q_x1 := x_x.c1; have f_x0 := x_x.fr 0; have f_x1 := x_x.fr 1
      skip
      with_reducible refine (RParse_no t (by omega) HOK.out).mono ?_
      rintro e v7 ⟨rfl, hb1⟩
      replace x_a := x_a.keep hb1
      replace x_x := x_x.keep hb1
      replace za := za.keep hb1
      replace hb := bthen hb hb1
      clear hb1
      replace q_a0 := x_a.c0; replace q_a1 := x_a.c1; replace f_a0 := x_a.fr 0; replace f_a1 := x_a.fr 1
      replace q_x0 := x_x.c0; replace q_x1 := x_x.c1; replace f_x0 := x_x.fr 0; replace f_x1 := x_x.fr 1
      have y_a := (x_a.alloc (.cells #[.bool false, .slice none 0 0] 24)); have yq_a0 := y_a.c0; have yq_a1 := y_a.c1
      have y_x := (x_x.alloc (.cells #[.bool false, .slice none 0 0] 24)); have yq_x0 := y_x.c0; have yq_x1 := y_x.c1
      go_wp2_with fail
      clear y_a yq_a0 yq_a1 y_x yq_x0 yq_x1
      have hb1 := below_alloc v7 (.cells #[.bool false, .slice none 0 0] 24)
      have l_a_y := x_a.lt
      have l_x_y := x_x.lt
      have x_y := Bx.new v7 false none 0 0
      have e_y : w.heap.size ≤ v7.heap.size := hb.size
      replace x_a := x_a.keep hb1
      replace x_x := x_x.keep hb1
      replace za := za.keep hb1
      replace hb := bthen hb hb1
      clear hb1
      replace q_a0 := x_a.c0; replace q_a1 := x_a.c1; replace f_a0 := x_a.fr 0; replace f_a1 := x_a.fr 1
      replace q_x0 := x_x.c0; replace q_x1 := x_x.c1; replace f_x0 := x_x.fr 0; replace f_x1 := x_x.fr 1
      clear q_a0 q_a1 f_a0 f_a1 q_x0 q_x1 f_x0 f_x1
      generalize v7.alloc (.cells #[.bool false, .slice none 0 0] 24) = v8 at *
      have q_a0 := x_a.c0; have q_a1 := x_a.c1; have f_a0 := x_a.fr 0; have f_a1 := x_a.fr 1
      have q_x0 := x_x.c0; have q_x1 := x_x.c1; have f_x0 := x_x.fr 0; have f_x1 := x_x.fr 1
      have q_y0 := x_y.c0; have q_y1 := x_y.c1; have f_y0 := x_y.fr 0; have f_y1 := x_y.fr 1
      skip
      with_reducible refine (Zequal_nought).mono ?_
      rintro e v9 ⟨rfl, hb1⟩
      replace x_a := x_a.keep hb1
      replace x_x := x_x.keep hb1
      replace x_y := x_y.keep hb1
      replace za := za.keep hb1
      replace hb := bthen hb hb1
      clear hb1
      replace q_a0 := x_a.c0; replace q_a1 := x_a.c1; replace f_a0 := x_a.fr 0; replace f_a1 := x_a.fr 1
      replace q_x0 := x_x.c0; replace q_x1 := x_x.c1; replace f_x0 := x_x.fr 0; replace f_x1 := x_x.fr 1
      replace q_y0 := x_y.c0; replace q_y1 := x_y.c1; replace f_y0 := x_y.fr 0; replace f_y1 := x_y.fr 1
      generalize hTX : (⟨(txL A).toArray⟩ : ByteArray) = TX
      have HTX := Lib.hid hTX; clear hTX
      go_wp2_with fail
      go_region_held3 (fun w' => w'.cell? ⟨w.heap.size, 0, none⟩ = some (.bool b) ∧ w'.cell? ⟨w.heap.size, 1, none⟩ = some (.slice Aa_ na_ ca_))
        (first | (with_reducible exact ⟨x_a.c0, x_a.c1⟩) | (with_reducible exact ⟨(x_a.aside (by omega)).c0, (x_a.aside (by omega)).c1⟩) | (with_reducible exact ⟨((x_a.aside (by omega)).aside (by omega)).c0, ((x_a.aside (by omega)).aside (by omega)).c1⟩) | go_keep)
        (first | (go_at_call 23; (with_reducible refine (ZText_any za.drw (by omega)).mono ?_); rintro e v10 ⟨rfl, hb1⟩; replace hb1 := undrew hb1; replace x_a := x_a.keep hb1; replace x_x := x_x.keep hb1; replace x_y := x_y.keep hb1; replace za := za.keep hb1; replace hb := bthen hb hb1; clear hb1; replace q_a0 := x_a.c0; replace q_a1 := x_a.c1; replace f_a0 := x_a.fr 0; replace f_a1 := x_a.fr 1; replace q_x0 := x_x.c0; replace q_x1 := x_x.c1; replace f_x0 := x_x.fr 0; replace f_x1 := x_x.fr 1; replace q_y0 := x_y.c0; replace q_y1 := x_y.c1; replace f_y0 := x_y.fr 0; replace f_y1 := x_y.fr 1; rw [HTX.out]) | (go_at_call 24; (with_reducible refine (RText_any za (by omega)).mono ?_); rintro e v11 ⟨rfl, hb1⟩; replace x_a := x_a.keep hb1; replace x_x := x_x.keep hb1; replace x_y := x_y.keep hb1; replace za := za.keep hb1; replace hb := bthen hb hb1; clear hb1; replace q_a0 := x_a.c0; replace q_a1 := x_a.c1; replace f_a0 := x_a.fr 0; replace f_a1 := x_a.fr 1; replace q_x0 := x_x.c0; replace q_x1 := x_x.c1; replace f_x0 := x_x.fr 0; replace f_x1 := x_x.fr 1; replace q_y0 := x_y.c0; replace q_y1 := x_y.c1; replace f_y0 := x_y.fr 0; replace f_y1 := x_y.fr 1; rw [HTX.out]))
      go_wp2
      go_ret
      exact ⟨by simp, hb⟩
    · have HOK := Lib.hid hok; clear hok
      generalize hV : zi (sgB t.data.toList) (dv (sgT t.data.toList)) = V
      have HV := Lib.hid hV; clear hV
      go_wp2_with fail
      replace za := za.put (b' := b) (A' := Aa_) (n' := na_) (c' := ca_) x_a
      replace hb := put_below (g := w.heap.size) hb (by omega) (.bool b) (.slice Aa_ na_ ca_)
      replace x_a := x_a.put b Aa_ na_ ca_
      clear q_a0 q_a1 f_a0 f_a1
      generalize (v3.setCell ⟨w.heap.size, 0, none⟩ (.bool b)).setCell ⟨w.heap.size, 1, none⟩ (.slice Aa_ na_ ca_) = v4 at *
      have q_a0 := x_a.c0; have q_a1 := x_a.c1; have f_a0 := x_a.fr 0; have f_a1 := x_a.fr 1
      with_reducible refine (ZParse_yes t (by omega) HOK.out).mono ?_
      rintro e v5 ⟨A5, n5, c5, rfl, z_x, hb1⟩
      replace x_a := x_a.keep hb1
      replace za := za.keep hb1
      replace hb := bthen hb hb1
      clear hb1
      replace q_a0 := x_a.c0; replace q_a1 := x_a.c1; replace f_a0 := x_a.fr 0; replace f_a1 := x_a.fr 1
      rw [HV.out] at z_x ⊢
      have y_a := (x_a.alloc (.cells #[.bool (ngB V), .slice A5 n5 c5] 24)); have yq_a0 := y_a.c0; have yq_a1 := y_a.c1
      go_wp2_with fail
      clear y_a yq_a0 yq_a1
      have hb1 := below_alloc v5 (.cells #[.bool (ngB V), .slice A5 n5 c5] 24)
      have l_a_x := x_a.lt
      have x_x := Bx.new v5 (ngB V) A5 n5 c5
      have e_x : w.heap.size ≤ v5.heap.size := hb.size
      replace x_a := x_a.keep hb1
      replace za := za.keep hb1
      replace z_x := z_x.keep hb1
      replace hb := bthen hb hb1
      clear hb1
      replace q_a0 := x_a.c0; replace q_a1 := x_a.c1; replace f_a0 := x_a.fr 0; replace f_a1 := x_a.fr 1
      clear q_a0 q_a1 f_a0 f_a1
      generalize v5.alloc (.cells #[.bool (ngB V), .slice A5 n5 c5] 24) = v6 at *
      have q_a0 := x_a.c0; have q_a1 := x_a.c1; have f_a0 := x_a.fr 0; have f_a1 := x_a.fr 1
      have q_x0 := x_x.c0; have q_x1 := x_x.c1; have f_x0 := x_x.fr 0; have f_x1 := x_x.fr 1
      skip
      with_reducible refine (RParse_yes t (by omega) HOK.out).mono ?_
      rintro e v7 ⟨A6, n6, c6, rfl, z_y, hb1⟩
      replace x_a := x_a.keep hb1
      replace x_x := x_x.keep hb1
      replace za := za.keep hb1
      replace z_x := z_x.keep hb1
      replace hb := bthen hb hb1
      clear hb1
      replace q_a0 := x_a.c0; replace q_a1 := x_a.c1; replace f_a0 := x_a.fr 0; replace f_a1 := x_a.fr 1
      replace q_x0 := x_x.c0; replace q_x1 := x_x.c1; replace f_x0 := x_x.fr 0; replace f_x1 := x_x.fr 1
      rw [HV.out] at z_y ⊢
      have y_a := (x_a.alloc (.cells #[.bool (ngB V), .slice A6 n6 c6] 24)); have yq_a0 := y_a.c0; have yq_a1 := y_a.c1
      have y_x := (x_x.alloc (.cells #[.bool (ngB V), .slice A6 n6 c6] 24)); have yq_x0 := y_x.c0; have yq_x1 := y_x.c1
      go_wp2_with fail
      clear y_a yq_a0 yq_a1 y_x yq_x0 yq_x1
      have hb1 := below_alloc v7 (.cells #[.bool (ngB V), .slice A6 n6 c6] 24)
      have l_a_y := x_a.lt
      have l_x_y := x_x.lt
      have x_y := Bx.new v7 (ngB V) A6 n6 c6
      have e_y : w.heap.size ≤ v7.heap.size := hb.size
      replace x_a := x_a.keep hb1
      replace x_x := x_x.keep hb1
      replace za := za.keep hb1
      replace z_x := z_x.keep hb1
      replace z_y := z_y.keep hb1
      replace hb := bthen hb hb1
      clear hb1
      replace q_a0 := x_a.c0; replace q_a1 := x_a.c1; replace f_a0 := x_a.fr 0; replace f_a1 := x_a.fr 1
      replace q_x0 := x_x.c0; replace q_x1 := x_x.c1; replace f_x0 := x_x.fr 0; replace f_x1 := x_x.fr 1
      clear q_a0 q_a1 f_a0 f_a1 q_x0 q_x1 f_x0 f_x1
      generalize v7.alloc (.cells #[.bool (ngB V), .slice A6 n6 c6] 24) = v8 at *
      have q_a0 := x_a.c0; have q_a1 := x_a.c1; have f_a0 := x_a.fr 0; have f_a1 := x_a.fr 1
      have q_x0 := x_x.c0; have q_x1 := x_x.c1; have f_x0 := x_x.fr 0; have f_x1 := x_x.fr 1
      have q_y0 := x_y.c0; have q_y1 := x_y.c1; have f_y0 := x_y.fr 0; have f_y1 := x_y.fr 1
      skip
      with_reducible refine (Zequal_any z_x z_y rfl).mono ?_
      rintro e v9 ⟨rfl, hb1⟩
      replace x_a := x_a.keep hb1
      replace x_x := x_x.keep hb1
      replace x_y := x_y.keep hb1
      replace za := za.keep hb1
      replace z_x := z_x.keep hb1
      replace z_y := z_y.keep hb1
      replace hb := bthen hb hb1
      clear hb1
      replace q_a0 := x_a.c0; replace q_a1 := x_a.c1; replace f_a0 := x_a.fr 0; replace f_a1 := x_a.fr 1
      replace q_x0 := x_x.c0; replace q_x1 := x_x.c1; replace f_x0 := x_x.fr 0; replace f_x1 := x_x.fr 1
      replace q_y0 := x_y.c0; replace q_y1 := x_y.c1; replace f_y0 := x_y.fr 0; replace f_y1 := x_y.fr 1
      clear z_x z_y
      generalize hTX : (⟨(txL A).toArray⟩ : ByteArray) = TX
      have HTX := Lib.hid hTX; clear hTX
      go_wp2_with fail
      go_region_held3 (fun w' => w'.cell? ⟨w.heap.size, 0, none⟩ = some (.bool b) ∧ w'.cell? ⟨w.heap.size, 1, none⟩ = some (.slice Aa_ na_ ca_))
        (first | (with_reducible exact ⟨x_a.c0, x_a.c1⟩) | (with_reducible exact ⟨(x_a.aside (by omega)).c0, (x_a.aside (by omega)).c1⟩) | (with_reducible exact ⟨((x_a.aside (by omega)).aside (by omega)).c0, ((x_a.aside (by omega)).aside (by omega)).c1⟩) | go_keep)
        (first | (go_at_call 23; (with_reducible refine (ZText_any za.drw (by omega)).mono ?_); rintro e v10 ⟨rfl, hb1⟩; replace hb1 := undrew hb1; replace x_a := x_a.keep hb1; replace x_x := x_x.keep hb1; replace x_y := x_y.keep hb1; replace za := za.keep hb1; replace hb := bthen hb hb1; clear hb1; replace q_a0 := x_a.c0; replace q_a1 := x_a.c1; replace f_a0 := x_a.fr 0; replace f_a1 := x_a.fr 1; replace q_x0 := x_x.c0; replace q_x1 := x_x.c1; replace f_x0 := x_x.fr 0; replace f_x1 := x_x.fr 1; replace q_y0 := x_y.c0; replace q_y1 := x_y.c1; replace f_y0 := x_y.fr 0; replace f_y1 := x_y.fr 1; rw [HTX.out]) | (go_at_call 24; (with_reducible refine (RText_any za (by omega)).mono ?_); rintro e v11 ⟨rfl, hb1⟩; replace x_a := x_a.keep hb1; replace x_x := x_x.keep hb1; replace x_y := x_y.keep hb1; replace za := za.keep hb1; replace hb := bthen hb hb1; clear hb1; replace q_a0 := x_a.c0; replace q_a1 := x_a.c1; replace f_a0 := x_a.fr 0; replace f_a1 := x_a.fr 1; replace q_x0 := x_x.c0; replace q_x1 := x_x.c1; replace f_x0 := x_x.fr 0; replace f_x1 := x_x.fr 1; replace q_y0 := x_y.c0; replace q_y1 := x_y.c1; replace f_y0 := x_y.fr 0; replace f_y1 := x_y.fr 1; rw [HTX.out]))
      go_wp2
      go_ret
      exact ⟨by simp, hb⟩
  · have hx : ¬ (100 : Int) < s.size := by omega
    have hts : s.size ≤ 100 := by omega
    cases hok : okD (sgT s.data.toList)
    · have HOK := Lib.hid hok; clear hok
      go_wp2_with fail
      replace za := za.put (b' := b) (A' := Aa_) (n' := na_) (c' := ca_) x_a
      replace hb := put_below (g := w.heap.size) hb (by omega) (.bool b) (.slice Aa_ na_ ca_)
      replace x_a := x_a.put b Aa_ na_ ca_
      clear q_a0 q_a1 f_a0 f_a1
      generalize (v3.setCell ⟨w.heap.size, 0, none⟩ (.bool b)).setCell ⟨w.heap.size, 1, none⟩ (.slice Aa_ na_ ca_) = v4 at *
      have q_a0 := x_a.c0; have q_a1 := x_a.c1; have f_a0 := x_a.fr 0; have f_a1 := x_a.fr 1
      with_reducible refine (ZParse_no s (by omega) HOK.out).mono ?_
      rintro e v5 ⟨rfl, hb1⟩
      replace x_a := x_a.keep hb1
      replace za := za.keep hb1
      replace hb := bthen hb hb1
      clear hb1
      replace q_a0 := x_a.c0; replace q_a1 := x_a.c1; replace f_a0 := x_a.fr 0; replace f_a1 := x_a.fr 1
      have y_a := (x_a.alloc (.cells #[.bool false, .slice none 0 0] 24)); have yq_a0 := y_a.c0; have yq_a1 := y_a.c1
      go_wp2_with fail
      clear y_a yq_a0 yq_a1
      have hb1 := below_alloc v5 (.cells #[.bool false, .slice none 0 0] 24)
      have l_a_x := x_a.lt
      have x_x := Bx.new v5 false none 0 0
      have e_x : w.heap.size ≤ v5.heap.size := hb.size
      replace x_a := x_a.keep hb1
      replace za := za.keep hb1
      replace hb := bthen hb hb1
      clear hb1
      replace q_a0 := x_a.c0; replace q_a1 := x_a.c1; replace f_a0 := x_a.fr 0; replace f_a1 := x_a.fr 1
      clear q_a0 q_a1 f_a0 f_a1
      generalize v5.alloc (.cells #[.bool false, .slice none 0 0] 24) = v6 at *
      have q_a0 := x_a.c0; have q_a1 := x_a.c1; have f_a0 := x_a.fr 0; have f_a1 := x_a.fr 1
      have q_x0 := x_x.c0; have q_x1 := x_x.c1; have f_x0 := x_x.fr 0; have f_x1 := x_x.fr 1
      skip
      with_reducible refine (RParse_no s (by omega) HOK.out).mono ?_
      rintro e v7 ⟨rfl, hb1⟩
      replace x_a := x_a.keep hb1
      replace x_x := x_x.keep hb1
      replace za := za.keep hb1
      replace hb := bthen hb hb1
      clear hb1
      replace q_a0 := x_a.c0; replace q_a1 := x_a.c1; replace f_a0 := x_a.fr 0; replace f_a1 := x_a.fr 1
      replace q_x0 := x_x.c0; replace q_x1 := x_x.c1; replace f_x0 := x_x.fr 0; replace f_x1 := x_x.fr 1
      have y_a := (x_a.alloc (.cells #[.bool false, .slice none 0 0] 24)); have yq_a0 := y_a.c0; have yq_a1 := y_a.c1
      have y_x := (x_x.alloc (.cells #[.bool false, .slice none 0 0] 24)); have yq_x0 := y_x.c0; have yq_x1 := y_x.c1
      go_wp2_with fail
      clear y_a yq_a0 yq_a1 y_x yq_x0 yq_x1
      have hb1 := below_alloc v7 (.cells #[.bool false, .slice none 0 0] 24)
      have l_a_y := x_a.lt
      have l_x_y := x_x.lt
      have x_y := Bx.new v7 false none 0 0
      have e_y : w.heap.size ≤ v7.heap.size := hb.size
      replace x_a := x_a.keep hb1
      replace x_x := x_x.keep hb1
      replace za := za.keep hb1
      replace hb := bthen hb hb1
      clear hb1
      replace q_a0 := x_a.c0; replace q_a1 := x_a.c1; replace f_a0 := x_a.fr 0; replace f_a1 := x_a.fr 1
      replace q_x0 := x_x.c0; replace q_x1 := x_x.c1; replace f_x0 := x_x.fr 0; replace f_x1 := x_x.fr 1
      clear q_a0 q_a1 f_a0 f_a1 q_x0 q_x1 f_x0 f_x1
      generalize v7.alloc (.cells #[.bool false, .slice none 0 0] 24) = v8 at *
      have q_a0 := x_a.c0; have q_a1 := x_a.c1; have f_a0 := x_a.fr 0; have f_a1 := x_a.fr 1
      have q_x0 := x_x.c0; have q_x1 := x_x.c1; have f_x0 := x_x.fr 0; have f_x1 := x_x.fr 1
      have q_y0 := x_y.c0; have q_y1 := x_y.c1; have f_y0 := x_y.fr 0; have f_y1 := x_y.fr 1
      skip
      with_reducible refine (Zequal_nought).mono ?_
      rintro e v9 ⟨rfl, hb1⟩
      replace x_a := x_a.keep hb1
      replace x_x := x_x.keep hb1
      replace x_y := x_y.keep hb1
      replace za := za.keep hb1
      replace hb := bthen hb hb1
      clear hb1
      replace q_a0 := x_a.c0; replace q_a1 := x_a.c1; replace f_a0 := x_a.fr 0; replace f_a1 := x_a.fr 1
      replace q_x0 := x_x.c0; replace q_x1 := x_x.c1; replace f_x0 := x_x.fr 0; replace f_x1 := x_x.fr 1
      replace q_y0 := x_y.c0; replace q_y1 := x_y.c1; replace f_y0 := x_y.fr 0; replace f_y1 := x_y.fr 1
      generalize hTX : (⟨(txL A).toArray⟩ : ByteArray) = TX
      have HTX := Lib.hid hTX; clear hTX
      go_wp2_with fail
      go_region_held3 (fun w' => w'.cell? ⟨w.heap.size, 0, none⟩ = some (.bool b) ∧ w'.cell? ⟨w.heap.size, 1, none⟩ = some (.slice Aa_ na_ ca_))
        (first | (with_reducible exact ⟨x_a.c0, x_a.c1⟩) | (with_reducible exact ⟨(x_a.aside (by omega)).c0, (x_a.aside (by omega)).c1⟩) | (with_reducible exact ⟨((x_a.aside (by omega)).aside (by omega)).c0, ((x_a.aside (by omega)).aside (by omega)).c1⟩) | go_keep)
        (first | (go_at_call 23; (with_reducible refine (ZText_any za.drw (by omega)).mono ?_); rintro e v10 ⟨rfl, hb1⟩; replace hb1 := undrew hb1; replace x_a := x_a.keep hb1; replace x_x := x_x.keep hb1; replace x_y := x_y.keep hb1; replace za := za.keep hb1; replace hb := bthen hb hb1; clear hb1; replace q_a0 := x_a.c0; replace q_a1 := x_a.c1; replace f_a0 := x_a.fr 0; replace f_a1 := x_a.fr 1; replace q_x0 := x_x.c0; replace q_x1 := x_x.c1; replace f_x0 := x_x.fr 0; replace f_x1 := x_x.fr 1; replace q_y0 := x_y.c0; replace q_y1 := x_y.c1; replace f_y0 := x_y.fr 0; replace f_y1 := x_y.fr 1; rw [HTX.out]) | (go_at_call 24; (with_reducible refine (RText_any za (by omega)).mono ?_); rintro e v11 ⟨rfl, hb1⟩; replace x_a := x_a.keep hb1; replace x_x := x_x.keep hb1; replace x_y := x_y.keep hb1; replace za := za.keep hb1; replace hb := bthen hb hb1; clear hb1; replace q_a0 := x_a.c0; replace q_a1 := x_a.c1; replace f_a0 := x_a.fr 0; replace f_a1 := x_a.fr 1; replace q_x0 := x_x.c0; replace q_x1 := x_x.c1; replace f_x0 := x_x.fr 0; replace f_x1 := x_x.fr 1; replace q_y0 := x_y.c0; replace q_y1 := x_y.c1; replace f_y0 := x_y.fr 0; replace f_y1 := x_y.fr 1; rw [HTX.out]))
      go_wp2
      go_ret
      exact ⟨by simp, hb⟩
    · have HOK := Lib.hid hok; clear hok
      generalize hV : zi (sgB s.data.toList) (dv (sgT s.data.toList)) = V
      have HV := Lib.hid hV; clear hV
      go_wp2_with fail
      replace za := za.put (b' := b) (A' := Aa_) (n' := na_) (c' := ca_) x_a
      replace hb := put_below (g := w.heap.size) hb (by omega) (.bool b) (.slice Aa_ na_ ca_)
      replace x_a := x_a.put b Aa_ na_ ca_
      clear q_a0 q_a1 f_a0 f_a1
      generalize (v3.setCell ⟨w.heap.size, 0, none⟩ (.bool b)).setCell ⟨w.heap.size, 1, none⟩ (.slice Aa_ na_ ca_) = v4 at *
      have q_a0 := x_a.c0; have q_a1 := x_a.c1; have f_a0 := x_a.fr 0; have f_a1 := x_a.fr 1
      with_reducible refine (ZParse_yes s (by omega) HOK.out).mono ?_
      rintro e v5 ⟨A5, n5, c5, rfl, z_x, hb1⟩
      replace x_a := x_a.keep hb1
      replace za := za.keep hb1
      replace hb := bthen hb hb1
      clear hb1
      replace q_a0 := x_a.c0; replace q_a1 := x_a.c1; replace f_a0 := x_a.fr 0; replace f_a1 := x_a.fr 1
      rw [HV.out] at z_x ⊢
      have y_a := (x_a.alloc (.cells #[.bool (ngB V), .slice A5 n5 c5] 24)); have yq_a0 := y_a.c0; have yq_a1 := y_a.c1
      go_wp2_with fail
      clear y_a yq_a0 yq_a1
      have hb1 := below_alloc v5 (.cells #[.bool (ngB V), .slice A5 n5 c5] 24)
      have l_a_x := x_a.lt
      have x_x := Bx.new v5 (ngB V) A5 n5 c5
      have e_x : w.heap.size ≤ v5.heap.size := hb.size
      replace x_a := x_a.keep hb1
      replace za := za.keep hb1
      replace z_x := z_x.keep hb1
      replace hb := bthen hb hb1
      clear hb1
      replace q_a0 := x_a.c0; replace q_a1 := x_a.c1; replace f_a0 := x_a.fr 0; replace f_a1 := x_a.fr 1
      clear q_a0 q_a1 f_a0 f_a1
      generalize v5.alloc (.cells #[.bool (ngB V), .slice A5 n5 c5] 24) = v6 at *
      have q_a0 := x_a.c0; have q_a1 := x_a.c1; have f_a0 := x_a.fr 0; have f_a1 := x_a.fr 1
      have q_x0 := x_x.c0; have q_x1 := x_x.c1; have f_x0 := x_x.fr 0; have f_x1 := x_x.fr 1
      skip
      with_reducible refine (RParse_yes s (by omega) HOK.out).mono ?_
      rintro e v7 ⟨A6, n6, c6, rfl, z_y, hb1⟩
      replace x_a := x_a.keep hb1
      replace x_x := x_x.keep hb1
      replace za := za.keep hb1
      replace z_x := z_x.keep hb1
      replace hb := bthen hb hb1
      clear hb1
      replace q_a0 := x_a.c0; replace q_a1 := x_a.c1; replace f_a0 := x_a.fr 0; replace f_a1 := x_a.fr 1
      replace q_x0 := x_x.c0; replace q_x1 := x_x.c1; replace f_x0 := x_x.fr 0; replace f_x1 := x_x.fr 1
      rw [HV.out] at z_y ⊢
      have y_a := (x_a.alloc (.cells #[.bool (ngB V), .slice A6 n6 c6] 24)); have yq_a0 := y_a.c0; have yq_a1 := y_a.c1
      have y_x := (x_x.alloc (.cells #[.bool (ngB V), .slice A6 n6 c6] 24)); have yq_x0 := y_x.c0; have yq_x1 := y_x.c1
      go_wp2_with fail
      clear y_a yq_a0 yq_a1 y_x yq_x0 yq_x1
      have hb1 := below_alloc v7 (.cells #[.bool (ngB V), .slice A6 n6 c6] 24)
      have l_a_y := x_a.lt
      have l_x_y := x_x.lt
      have x_y := Bx.new v7 (ngB V) A6 n6 c6
      have e_y : w.heap.size ≤ v7.heap.size := hb.size
      replace x_a := x_a.keep hb1
      replace x_x := x_x.keep hb1
      replace za := za.keep hb1
      replace z_x := z_x.keep hb1
      replace z_y := z_y.keep hb1
      replace hb := bthen hb hb1
      clear hb1
      replace q_a0 := x_a.c0; replace q_a1 := x_a.c1; replace f_a0 := x_a.fr 0; replace f_a1 := x_a.fr 1
      replace q_x0 := x_x.c0; replace q_x1 := x_x.c1; replace f_x0 := x_x.fr 0; replace f_x1 := x_x.fr 1
      clear q_a0 q_a1 f_a0 f_a1 q_x0 q_x1 f_x0 f_x1
      generalize v7.alloc (.cells #[.bool (ngB V), .slice A6 n6 c6] 24) = v8 at *
      have q_a0 := x_a.c0; have q_a1 := x_a.c1; have f_a0 := x_a.fr 0; have f_a1 := x_a.fr 1
      have q_x0 := x_x.c0; have q_x1 := x_x.c1; have f_x0 := x_x.fr 0; have f_x1 := x_x.fr 1
      have q_y0 := x_y.c0; have q_y1 := x_y.c1; have f_y0 := x_y.fr 0; have f_y1 := x_y.fr 1
      skip
      with_reducible refine (Zequal_any z_x z_y rfl).mono ?_
      rintro e v9 ⟨rfl, hb1⟩
      replace x_a := x_a.keep hb1
      replace x_x := x_x.keep hb1
      replace x_y := x_y.keep hb1
      replace za := za.keep hb1
      replace z_x := z_x.keep hb1
      replace z_y := z_y.keep hb1
      replace hb := bthen hb hb1
      clear hb1
      replace q_a0 := x_a.c0; replace q_a1 := x_a.c1; replace f_a0 := x_a.fr 0; replace f_a1 := x_a.fr 1
      replace q_x0 := x_x.c0; replace q_x1 := x_x.c1; replace f_x0 := x_x.fr 0; replace f_x1 := x_x.fr 1
      replace q_y0 := x_y.c0; replace q_y1 := x_y.c1; replace f_y0 := x_y.fr 0; replace f_y1 := x_y.fr 1
      clear z_x z_y
      generalize hTX : (⟨(txL A).toArray⟩ : ByteArray) = TX
      have HTX := Lib.hid hTX; clear hTX
      go_wp2_with fail
      go_region_held3 (fun w' => w'.cell? ⟨w.heap.size, 0, none⟩ = some (.bool b) ∧ w'.cell? ⟨w.heap.size, 1, none⟩ = some (.slice Aa_ na_ ca_))
        (first | (with_reducible exact ⟨x_a.c0, x_a.c1⟩) | (with_reducible exact ⟨(x_a.aside (by omega)).c0, (x_a.aside (by omega)).c1⟩) | (with_reducible exact ⟨((x_a.aside (by omega)).aside (by omega)).c0, ((x_a.aside (by omega)).aside (by omega)).c1⟩) | go_keep)
        (first | (go_at_call 23; (with_reducible refine (ZText_any za.drw (by omega)).mono ?_); rintro e v10 ⟨rfl, hb1⟩; replace hb1 := undrew hb1; replace x_a := x_a.keep hb1; replace x_x := x_x.keep hb1; replace x_y := x_y.keep hb1; replace za := za.keep hb1; replace hb := bthen hb hb1; clear hb1; replace q_a0 := x_a.c0; replace q_a1 := x_a.c1; replace f_a0 := x_a.fr 0; replace f_a1 := x_a.fr 1; replace q_x0 := x_x.c0; replace q_x1 := x_x.c1; replace f_x0 := x_x.fr 0; replace f_x1 := x_x.fr 1; replace q_y0 := x_y.c0; replace q_y1 := x_y.c1; replace f_y0 := x_y.fr 0; replace f_y1 := x_y.fr 1; rw [HTX.out]) | (go_at_call 24; (with_reducible refine (RText_any za (by omega)).mono ?_); rintro e v11 ⟨rfl, hb1⟩; replace x_a := x_a.keep hb1; replace x_x := x_x.keep hb1; replace x_y := x_y.keep hb1; replace za := za.keep hb1; replace hb := bthen hb hb1; clear hb1; replace q_a0 := x_a.c0; replace q_a1 := x_a.c1; replace f_a0 := x_a.fr 0; replace f_a1 := x_a.fr 1; replace q_x0 := x_x.c0; replace q_x1 := x_x.c1; replace f_x0 := x_x.fr 0; replace f_x1 := x_x.fr 1; replace q_y0 := x_y.c0; replace q_y1 := x_y.c1; replace f_y0 := x_y.fr 0; replace f_y1 := x_y.fr 1; rw [HTX.out]))
      go_wp2
      go_ret
      exact ⟨by simp, hb⟩
end
end Go.Proofs.Ytcoidcbbdibnaaa
namespace Go.Proofs.Ytcoidcbbdibnaaa
section
open Go.ChangeShapes Go.WideShapes Go.ChangeAt Go.RowKit
set_option linter.unusedVariables false

theorem Try.own : ownKnob Try.prog.godebug = none := by kernel_rfl
theorem Try.laidOut : laidOutB Try.prog = true := by kernel_rfl
theorem Try.cells64 : Try.prog.cellsOf 29 = 1 := by kernel_rfl
theorem Try.bytes64 : Try.prog.bytesOf 29 = 8 := by kernel_rfl

theorem wf_lm {n : Int} (h : (Lit.int .u64 n).wf = true) : 0 ≤ n ∧ n < (Wd : Int) := by
  simp only [Lit.wf, Bool.and_eq_true, decide_eq_true_eq] at h
  have h1 : IntKind.u64.min = 0 := rfl
  have h2 : IntKind.u64.max = 18446744073709551615 := rfl
  rw [Wd_eq]; omega
theorem bounds_int {n : Int} (h : (Lit.int .i64 n).wf = true) : -9223372036854775808 ≤ n ∧ n ≤ 9223372036854775807 := by
  simp only [Lit.wf, Bool.and_eq_true, decide_eq_true_eq] at h
  have h1 : IntKind.i64.min = -9223372036854775808 := rfl
  have h2 : IntKind.i64.max = 9223372036854775807 := rfl
  omega

/-- A slice of limbs that came in. -/
theorem open_rd {H : Type} {enc : TypeId × Value → H} {W : World} {base : Nat} {v : Value} {d : DataW H} {ps : List MemPlace} (hok : Value.okWide Try.prog W .any base 22 v)
    (h : DataW.Trod enc Try.prog W 0 (fun _ => true) true 22 v d ps) (hlt : ∀ x ∈ ps, x.block < W.heap.size)
    (hsz : ∀ elems spare, d = .slice elems spare → (elems.length + spare.length) * Try.prog.bytesOf 29 ≤ reachBytes) : ∃ A n c l, v = .slice A n c ∧ Rd W W.heap.size A n c l := by
  obtain ⟨a0, len, cap, rfl⟩ := okWide_slice Try.underlying22 hok
  obtain ⟨fuel, hf⟩ := h
  rcases open_ints Try.underlying22 Try.underlying29 Try.cells64 hf with ⟨hcs, hx⟩ | ⟨a, len', cap', zs, hcs, _, hl, hm, hz, hx, hcell, hwz⟩
  · simp [Value.cells] at hcs
    obtain ⟨rfl, rfl, rfl⟩ := hcs
    exact ⟨_, _, _, [], rfl, Rd.nil⟩
  · simp [Value.cells] at hcs
    obtain ⟨rfl, rfl, rfl⟩ := hcs
    simp only [Prod.mk.injEq] at hx
    obtain ⟨rfl, rfl⟩ := hx
    simp only [if_true] at hz
    have hreach := hsz _ _ rfl
    rw [Try.bytes64] at hreach
    simp only [lits, List.length_map, List.length_take, List.length_drop, reachBytes] at hreach
    have hzl : (zs.take len).length = len := by simp; omega
    refine ⟨_, _, _, zs.take len, rfl, hzl, hl, by omega, fun x hx => wf_lm (hwz x (List.mem_of_mem_take hx)), fun hn => ?_⟩
    obtain ⟨b, off, spot⟩ := a
    have hspot : spot = none := by simpa [Addr.add] using World.cell?_spot (hcell 0 (by omega))
    subst hspot
    have hbW : b < W.heap.size := hlt (.cell b off) (MemPlace.mem_row.2 ⟨0, by omega, by simp⟩)
    refine ⟨b, off, rfl, hbW, fun k hk => ?_⟩
    have hk2 : k < zs.length := by omega
    rw [← add_plain, hcell k hk2, List.getElem_take]
    simp [List.getD, List.getElem?_eq_getElem hk2]
end
end Go.Proofs.Ytcoidcbbdibnaaa
namespace Go.Proofs.Ytcoidcbbdibnaaa
section
open Go.Joins Go.ChangeShapes Go.WideShapes Go.ChangeAt Go.RowKit
set_option linter.unusedVariables false

theorem Try.cellsInt : Try.prog.cellsOf 24 = 2 := by kernel_rfl

theorem sized_mag {H : Type} {ts : List TypeId} {ds : List (DataW H)} (h : (DataW.weightsEach Try.prog ts ds).all (· ≤ reachBytes) = true) {j : Nat} {d0 : DataW H} {elems spare : List (DataW H)} (ht : ts[j]? = some 24) (hd : ds[j]? = some (.agg [d0, .slice elems spare])) :
    (elems.length + spare.length) * Try.prog.bytesOf 29 ≤ reachBytes := by
  have := List.all_eq_true.1 h _ (DataW.weights_mem_each ht hd ((elems.length + spare.length) * Try.prog.bytesOf 29) (by simp [DataW.weights, DataW.weightsEach, Try.underlying24, Try.underlying22]))
  simpa using this

/-- An integer that came in. -/
theorem open_z {H : Type} {enc : TypeId × Value → H} {W : World} {base : Nat} {v : Value} {d : DataW H} {ps : List MemPlace} (hok : Value.okWide Try.prog W .any base 24 v)
    (h : DataW.Trod enc Try.prog W 0 (fun _ => true) true 24 v d ps) (hlt : ∀ x ∈ ps, x.block < W.heap.size)
    (hsz : ∀ d0 elems spare, d = .agg [d0, .slice elems spare] → (elems.length + spare.length) * Try.prog.bytesOf 29 ≤ reachBytes) : ∃ b A n c l, v = .agg #[.bool b, .slice A n c] ∧ Rd W W.heap.size A n c l := by
  obtain ⟨v0, v1, y0, y1, m, rfl, rfl, rfl, t0, t1⟩ := open_agg2 Try.underlying24 (by kernel_rfl) Try.cellsInt hok h
  obtain ⟨b, hb0, _⟩ := DataW.trod_bool Try.underlying4 t0
  injection hb0 with hb0 _
  subst hb0
  rcases open_ints Try.underlying22 Try.underlying29 Try.cells64 t1 with ⟨hcs, hx⟩ | ⟨a, len', cap', zs, hcs, _, hl, hm, hz, hx, hcell, hwz⟩
  · injection hcs with hcs _
    subst hcs
    exact ⟨b, _, _, _, [], rfl, Rd.nil⟩
  · injection hcs with hcs _
    subst hcs
    subst hx
    simp only [if_true] at hz
    have hreach := hsz _ _ _ rfl
    rw [Try.bytes64] at hreach
    simp only [lits, List.length_map, List.length_take, List.length_drop, reachBytes] at hreach
    have hzl : (zs.take len').length = len' := by simp; omega
    refine ⟨b, _, _, _, zs.take len', rfl, hzl, hl, by omega, fun x hx => wf_lm (hwz x (List.mem_of_mem_take hx)), fun hn => ?_⟩
    obtain ⟨b1, off, spot⟩ := a
    have hspot : spot = none := by simpa [Addr.add] using World.cell?_spot (hcell 0 (by omega))
    subst hspot
    have hbW : b1 < W.heap.size := hlt (.cell b1 off) (by rw [List.mem_append]; exact .inr (MemPlace.mem_row.2 ⟨0, by omega, by simp⟩))
    refine ⟨b1, off, rfl, hbW, fun k hk => ?_⟩
    have hk2 : k < zs.length := by omega
    rw [← add_plain, hcell k hk2, List.getElem_take]
    simp [List.getD, List.getElem?_eq_getElem hk2]
end
end Go.Proofs.Ytcoidcbbdibnaaa
namespace Go.Proofs.Ytcoidcbbdibnaaa
section
open Go.Joins Go.ChangeShapes Go.WideShapes Go.ChangeAt Go.RowKit
open Go.ChangeMaps (open_string shut_string)
set_option linter.unusedVariables false

set_option maxRecDepth 100000 in
theorem ZedTexts_lifted (os : Go.Os) (started : os.Started) (H : Type) (enc : TypeId × Value → H) :
    ReturnsInHanded {} Try.checked os 4 .any (Rows.zedTextsSpec.pre6 enc Try.prog Try.f4 Rows.zedTextsRow.domain false) (Rows.zedTextsSpec.post enc Try.prog Try.f4 false true false false) := by
  refine returnsInHanded_of_change_sized (C := Try.checked) Try.own started (by kernel_rfl) Try.func4
    (ChangeSpec.witness6 (enc := enc) (C := Try.checked) false ⟨#[], #[.agg #[.bool false, .slice none 0 0], .string ⟨#[]⟩], []⟩ 8 (by kernel_rfl) (by kernel_rfl) (by kernel_rfl) (by kernel_rfl)) ?_
  intro W base args ds gs before hval0 hW _ hsz0 _
  have hsz : (DataW.weightsEach Try.prog (Try.f4.params.toList ++ Rows.zedTextsSpec.plain.varTypes Try.prog) (ds ++ gs)).all (· ≤ reachBytes) = true := hsz0
  clear hsz0
  have hval : ∀ (j : Nat) t v, Try.f4.params[j]? = some t → args[j]? = some v → Value.okWide Try.prog W .any base t v := hval0
  have hW' := hW
  obtain ⟨p, q, hA0, hV, rfl, _, _⟩ := hW
  have hA : DataW.TrodAll enc Try.prog W 0 (fun _ => true) true Try.f4.params.toList args.toList ds p := hA0
  rw [Try.params4] at hA hval hsz
  obtain ⟨v0, vs0, d0, ds0, p0, q0, hargs, rfl, rfl, h0, r0⟩ := trodAll_cons hA
  obtain ⟨v1, vs1, d1, ds1, p1, q1, rfl, rfl, rfl, h1, r1⟩ := trodAll_cons r0
  obtain ⟨rfl, rfl, rfl⟩ := trodAll_nil r1
  obtain rfl : args = #[v0, v1] := by cases args; simp_all
  obtain ⟨rfl, rfl⟩ := trodVars_none hV
  clear hA0 hval0 hA
  simp only [List.append_nil] at hW'
  have hlt0 : ∀ x ∈ p0, x.block < W.heap.size := fun x hx => by simpa using hW'.lt x (by simp [hx])
  have hlt1 : ∀ x ∈ p1, x.block < W.heap.size := fun x hx => by simpa using hW'.lt x (by simp [hx])
  have hback0 : ∀ W' : World, Below W.heap.size W W' → DataW.Trod enc Try.prog W' 0 (fun b => decide (b < W.heap.size)) true 24 v0 d0 p0 :=
    fun W' hn => Below.trod Try.laidOut (by kernel_rfl) (of_decide_eq_true (by kernel_rfl)) h0 hn hlt0
  obtain ⟨b0, A0, n0, c0, l0, rfl, g0⟩ := open_z (hval 0 24 v0 rfl rfl) h0 hlt0 (fun dd elems spare hd => sized_mag hsz (j := 0) (d0 := dd) rfl (by simp [hd]))
  obtain ⟨s1, rfl, rfl, rfl, ws1⟩ := open_string Try.underlying9 (hval 1 9 v1 rfl rfl) h1
  refine (ZedTexts_any g0 ws1).mono fun e W' ⟨he, hb⟩ => ?_
  subst he
  exact ⟨_, rfl, _, _, _, [], _, [], hW', trodAll_mk1 (shut_bool Try.underlying4 _), (trodAll_cons_mk (hback0 _ hb) (trodAll_cons_mk (shut_string Try.underlying9 ws1) trodAll_mk0)), rfl, hb.frame _, fun h => by cases h⟩

theorem ZedTexts_holds : Rows.ZedTextsSaid :=
  OpenClaim.holds_of_wide 4 Try.f4 rfl rfl rfl rfl rfl rfl rfl ⟨rfl, rfl, rfl, rfl, rfl⟩ rfl rfl rfl rfl rfl (by kernel_rfl) Try.func4 (by kernel_rfl)
    (of_decide_eq_true (by kernel_rfl)) (by unfold Func.isWrapper; first | (rw [if_pos (by decide +kernel)]; kernel_rfl) | (rw [if_neg (by decide +kernel)]; exact ⟨rfl, rfl⟩))
    (fun os started H enc _ => ZedTexts_lifted os started H enc)
end
end Go.Proofs.Ytcoidcbbdibnaaa
