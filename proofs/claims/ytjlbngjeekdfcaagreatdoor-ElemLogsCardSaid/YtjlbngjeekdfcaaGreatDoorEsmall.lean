/-
 the laws of elem: small, whole, at.
-/
import Derived.Test.YtjlbngjeekdfcaaGreatDoorPe
import Derived.Test.YtjlbngjeekdfcaaGreatDoorPf
import Derived.Test.YtjlbngjeekdfcaaGreatDoorEnum6
import Derived.Test.YtjlbngjeekdfcaaGreatDoorElem8
namespace Go.Proofs.YtjlbngjeekdfcaaGreatDoor
variable {A : Option Addr} {W w : World} {b : Bool} {c n : Nat} {e : Int} {l : List Int}
set_option maxRecDepth 100000
set_option maxHeartbeats 2000000
set_option linter.unusedVariables false
section
open Go.RowKit
theorem wpo_all64 {o : Oper} {a : Act} {K : Act → World → Prop} {Q : Exit → Act → World → Prop} (s x : Operand)
  (hop : o.op = .call { callee := .builtin .append, args := #[s, x], argTypes := #[22, 22] }) (base : Nat) (v : Value) (hs : a.eval s = v) (hown : Ow W base v [])
  (A : Option Addr) (n c B : Nat) (m : List Int) (hx : a.eval x = .slice A n c) (hrd : Rd W B A n c m) (hn : n ≤ 1099511627776) (hbase : base ≤ W.heap.size)
  (hK : ∀ A' n' c' w', Rd w' w'.heap.size A' n' c' m → Below base W w' → K (a.put o.dst (.slice A' n' c')) w') : o.wp Tryz.prog a W K Q := by
 have hml := hrd.len
 have key : ∃ v' w', (Builtin.append_ #[22, 22] o.type #[v, .slice A n c]).run Tryz.prog W = .ok v' w' ∧ Ow w' base v' m ∧ Below base W w' := by
  rcases A with _ | ad
  ·have h0 : n = 0 := by
    rcases Nat.eq_zero_or_pos n with h0 | h0
    ·exact h0
    ·obtain ⟨_, _, h, _⟩ := hrd.at_ h0; cases h
   subst h0
   have : m = [] := List.eq_nil_of_length_eq_zero hml
   subst this
   exact ⟨v, W, run_append_zero hown o.type c, hown, Below.refl _ _⟩
  ·obtain ⟨i0, hi, hz0, hz1, hz2⟩ := info_parts Tryz.info64
   obtain ⟨v', w', hr, h2, h3, _, _⟩ := run_append_own_at (P := Tryz.prog) W base 22 o.type 67 i0 (.int .u64 0) 1 8 Tryz.underlying22 hi hz0 hz1 hz2 rfl (by decide) v _ _ hown ad n c (m.map (Value.int .u64)) (by simp [hml]) (by
    intro j u hj
    rw [List.getElem?_map] at hj
    by_cases hjl : j < m.length
    ·obtain ⟨b, of, e, hb, hc⟩ := hrd.at_ (by omega)
     injection e with e
     subst e
     rw [List.getElem?_eq_getElem hjl] at hj
     simp at hj
     subst hj
     rw [← hc j hjl]
     unfold Addr.add
     by_cases hj0 : j = 0
     ·subst hj0; simp
     ·rw [if_neg hj0]
    ·rw [List.getElem?_eq_none (by omega)] at hj
     simp at hj) (ints_oneCell _ _) (by unfold maxLen; simp; omega) (by simp; omega) hbase
   refine ⟨v', w', hr, ?_, ⟨h3.os, h3.tape, h3.output, h3.size, fun k hk => h3.block k (by omega) (fun e => by have := (World.ownsRow.lt hown k e.symm).1; omega)⟩⟩
   unfold Ow
   rw [hml]
   simpa using h2
 obtain ⟨v', w', hr, h1, h2⟩ := key
 obtain ⟨A', n', c', rfl, h3⟩ := h1.rd hrd.lim (by omega)
 unfold Oper.wp execOp
 simp only [hop, resolve, invoke, builtin, Sem.run_bind, Sem.run_pure, Result.andThen_ok, List.map_toArray, List.map_cons, List.map_nil, hs, hx, hr]
 exact hK _ _ _ _ h3 h2
theorem step_all64 {ops : Array Oper} {o : Oper} {a : Act} {K : Act → World → Prop} {Q : Exit → Act → World → Prop} {E : Prop} (hgd : o.guard = none) (s x : Operand)
  (hop : o.op = .call { callee := .builtin .append, args := #[s, x], argTypes := #[22, 22] }) (base : Nat) (v : Value) (hs : a.eval s = v) (hown : Ow W base v [])
  (A : Option Addr) (n c B : Nat) (m : List Int) (hx : a.eval x = .slice A n c) (hrd : Rd W B A n c m) (hn : n ≤ 1099511627776) (hbase : base ≤ W.heap.size)
  (hK : ∀ A' n' c' w', Rd w' w'.heap.size A' n' c' m → Below base W w' → K (a.put o.dst (.slice A' n' c')) w') :
  if Region.wanted o (yielded ops a.tmps) = true then Oper.wp Tryz.prog o a W K Q else E := by
 have hw : Region.wanted o (yielded ops a.tmps) = true := by simp [Region.wanted, hgd]
 rw [if_pos hw]
 exact wpo_all64 s x hop base v hs hown A n c B m hx hrd hn hbase hK
theorem Ow.drw {base : Nat} {v : Value} (h : Ow w base v l) : Ow w.drew base v l := h
end
section
open Go.RowKit
def DcPost (w : World) (b : Bool) (l : List Int) (e : Int) (k : Nat) (en : Ending) (w' : World) : Prop := ∃ A n c, en = .returned (.agg #[.bool b, .slice A n c, .int .i64 e]) ∧ Rd w' w'.heap.size A n c (l.take k) ∧ n ≤ k ∧ Below w.heap.size w w'
theorem Dcut_any (h : Rd w w.heap.size A n c l) (k : Nat) (hk : k ≤ 1000) :
  Calls Tryz.prog 31 #[.agg #[.bool b, .slice A n c, .int .i64 e], .int .i64 k] w (DcPost w b l e k) := by
 have hcap := h.cap
 have hbig := h.big
 have HLEN := Lib.hid h.len
 by_cases hnk : k < n
 ·have hkc : k ≤ c := by omega
  have hlt : (k : Int) < n := by omega
  replace h := h.take (show k ≤ n by omega)
  go_enter Tryz.func31, Tryz.ntmps31
  go_wp2_with fail
  have x_a : Dx (w.alloc (.cells #[.bool b, .slice A n c, .int .i64 e] 26)) (w.heap.size) b A n c e := by have := Dx.new w b A n c e; simpa using this
  replace x_a := x_a.alloc (.cells #[.bool false, .slice none 0 0, .int .i64 0] 26)
  have x_r : Dx ((w.alloc (.cells #[.bool b, .slice A n c, .int .i64 e] 26)).alloc (.cells #[.bool false, .slice none 0 0, .int .i64 0] 26)) (w.heap.size + 1) false none 0 0 0 := by have := Dx.new (w.alloc (.cells #[.bool b, .slice A n c, .int .i64 e] 26)) false none 0 0 0; simpa using this
  have hb : Below w.heap.size w ((w.alloc (.cells #[.bool b, .slice A n c, .int .i64 e] 26)).alloc (.cells #[.bool false, .slice none 0 0, .int .i64 0] 26)) := (Below.alloc (Below.alloc (Below.refl w.heap.size w) (by simp) (.cells #[.bool b, .slice A n c, .int .i64 e] 26)) (by simp) (.cells #[.bool false, .slice none 0 0, .int .i64 0] 26))
  generalize (w.alloc (.cells #[.bool b, .slice A n c, .int .i64 e] 26)).alloc (.cells #[.bool false, .slice none 0 0, .int .i64 0] 26) = v1 at *
  replace h := h.go hb
  have q_a0 := x_a.c0; have q_a1 := x_a.c1; have f_a0 := x_a.fr 0; have f_a1 := x_a.fr 1; have q_a2 := x_a.c2; have f_a2 := x_a.fr 2
  have q_r0 := x_r.c0; have q_r1 := x_r.c1; have f_r0 := x_r.fr 0; have f_r1 := x_r.fr 1; have q_r2 := x_r.c2; have f_r2 := x_r.fr 2
  go_wp2_with fail
  have ho := Ow.empty v1 v1.heap.size (Nat.le_refl _)
  have lt_a := x_a.lt; have lt_r := x_r.lt
  have hb2 := below_alloc v1 (.cells #[] 67)
  have h3 := h.go hb2
  have x_a3 := x_a.keep hb2; have x_r3 := x_r.keep hb2
  go_region_held3 (fun w' => w'.cell? ⟨w.heap.size, 0, none⟩ = some (.bool b) ∧ w'.cell? ⟨w.heap.size, 2, none⟩ = some (.int .i64 e))
   (first | exact ⟨x_a.c0, x_a.c2⟩ | exact ⟨x_a3.c0, x_a3.c2⟩ | exact ⟨x_a4.c0, x_a4.c2⟩ | exact ⟨(x_a4.asideD (by omega)).c0, (x_a4.asideD (by omega)).c2⟩ | go_keep)
   ((refine step_all64 (by rfl) _ _ (by rfl) v1.heap.size _ (by rfl) ho.drw A k c _ (l.take k) (by rfl) h3.drw (by omega) (by simp) ?_; intro A1 n1 c1 v9 g1 hb1; have x_a4 := x_a3.drew.below hb1 lt_a; have x_r4 := x_r3.drew.below hb1 lt_r; have q_a0 := x_a4.c0; have q_a2 := x_a4.c2; have q_r0 := x_r4.c0; have q_r1 := x_r4.c1; have q_r2 := x_r4.c2; have f_r0 := x_r4.fr 0; have f_r1 := x_r4.fr 1; have f_r2 := x_r4.fr 2))
  go_wp2
  have zz := x_r4.put b A1 n1 c1 e
  refine bodyPost_ret (v := .agg #[.bool b, .slice A1 n1 c1, .int .i64 e]) (by simp [results, Tryz.results31, go_sem, zz.c0, zz.c1, zz.c2]) rfl ?_
  exact ⟨_, _, _, rfl, g1.sputD x_r4, by have := g1.len; rw [List.length_take] at this; omega, put_belowD ((below_drew (bthen hb hb2)).trans (hb1.mono hb.size)) (by omega) _ _ _⟩
 ·have hlt : ¬ (k : Int) < n := by omega
  rw [show l = l.take k from (List.take_of_length_le (by have := HLEN.out; omega)).symm] at h
  go_enter Tryz.func31, Tryz.ntmps31
  go_wp2_with fail
  have x_a : Dx (w.alloc (.cells #[.bool b, .slice A n c, .int .i64 e] 26)) (w.heap.size) b A n c e := by have := Dx.new w b A n c e; simpa using this
  replace x_a := x_a.alloc (.cells #[.bool false, .slice none 0 0, .int .i64 0] 26)
  have x_r : Dx ((w.alloc (.cells #[.bool b, .slice A n c, .int .i64 e] 26)).alloc (.cells #[.bool false, .slice none 0 0, .int .i64 0] 26)) (w.heap.size + 1) false none 0 0 0 := by have := Dx.new (w.alloc (.cells #[.bool b, .slice A n c, .int .i64 e] 26)) false none 0 0 0; simpa using this
  have hb : Below w.heap.size w ((w.alloc (.cells #[.bool b, .slice A n c, .int .i64 e] 26)).alloc (.cells #[.bool false, .slice none 0 0, .int .i64 0] 26)) := (Below.alloc (Below.alloc (Below.refl w.heap.size w) (by simp) (.cells #[.bool b, .slice A n c, .int .i64 e] 26)) (by simp) (.cells #[.bool false, .slice none 0 0, .int .i64 0] 26))
  generalize (w.alloc (.cells #[.bool b, .slice A n c, .int .i64 e] 26)).alloc (.cells #[.bool false, .slice none 0 0, .int .i64 0] 26) = v1 at *
  replace h := h.go hb
  have q_a0 := x_a.c0; have q_a1 := x_a.c1; have f_a0 := x_a.fr 0; have f_a1 := x_a.fr 1; have q_a2 := x_a.c2; have f_a2 := x_a.fr 2
  have q_r0 := x_r.c0; have q_r1 := x_r.c1; have f_r0 := x_r.fr 0; have f_r1 := x_r.fr 1; have q_r2 := x_r.c2; have f_r2 := x_r.fr 2
  go_wp2_with fail
  have ho := Ow.empty v1 v1.heap.size (Nat.le_refl _)
  have lt_a := x_a.lt; have lt_r := x_r.lt
  have hb2 := below_alloc v1 (.cells #[] 67)
  have h3 := h.go hb2
  have x_a3 := x_a.keep hb2; have x_r3 := x_r.keep hb2
  go_region_held3 (fun w' => w'.cell? ⟨w.heap.size, 0, none⟩ = some (.bool b) ∧ w'.cell? ⟨w.heap.size, 2, none⟩ = some (.int .i64 e))
   (first | exact ⟨x_a.c0, x_a.c2⟩ | exact ⟨x_a3.c0, x_a3.c2⟩ | exact ⟨x_a4.c0, x_a4.c2⟩ | exact ⟨(x_a4.asideD (by omega)).c0, (x_a4.asideD (by omega)).c2⟩ | go_keep)
   ((refine step_all64 (by rfl) _ _ (by rfl) v1.heap.size _ (by rfl) ho.drw A n c _ (l.take k) (by rfl) h3.drw (by omega) (by simp) ?_; intro A1 n1 c1 v9 g1 hb1; have x_a4 := x_a3.drew.below hb1 lt_a; have x_r4 := x_r3.drew.below hb1 lt_r; have q_a0 := x_a4.c0; have q_a2 := x_a4.c2; have q_r0 := x_r4.c0; have q_r1 := x_r4.c1; have q_r2 := x_r4.c2; have f_r0 := x_r4.fr 0; have f_r1 := x_r4.fr 1; have f_r2 := x_r4.fr 2))
  go_wp2
  have zz := x_r4.put b A1 n1 c1 e
  refine bodyPost_ret (v := .agg #[.bool b, .slice A1 n1 c1, .int .i64 e]) (by simp [results, Tryz.results31, go_sem, zz.c0, zz.c1, zz.c2]) rfl ?_
  exact ⟨_, _, _, rfl, g1.sputD x_r4, by have := g1.len; rw [List.length_take] at this; omega, put_belowD ((below_drew (bthen hb hb2)).trans (hb1.mono hb.size)) (by omega) _ _ _⟩
theorem Dcut_at (h : Rd w w.heap.size A n c l) (k : Nat) (K : Int) (hK : K = (k : Int)) (hk : k ≤ 1000) :
  Calls Tryz.prog 31 #[.agg #[.bool b, .slice A n c, .int .i64 e], .int .i64 K] w (DcPost w b l e k) := by
 subst hK; exact Dcut_any h k hk
end
end Go.Proofs.YtjlbngjeekdfcaaGreatDoor
namespace Go.Proofs.YtjlbngjeekdfcaaGreatDoor
set_option maxRecDepth 100000
set_option maxHeartbeats 4000000
set_option linter.unusedVariables false
open Go.RowKit
open MX (bLo bHi tA tZ xK xR xS yR yS uR uS gR gS hR hS wK wR wS vJ vKi vN vLo vHi nq Hd)
def EsPost (w : World) (en : Ending) (w' : World) : Prop := ∃ X e A n c, en = .returned (.agg #[.bool (ngB X), .slice A n c, .int .i64 e]) ∧ Zn w' A n c X 3 ∧ Sl X e ∧ Below w.heap.size w w'
def OuT (w : World) (X Y q : Int) (e : Ending) (w' : World) : Prop := ∃ A n c A2 n2 c2, e = .returned (.tuple #[.agg #[.bool (ngB X), .slice A n c, .bool (ngB Y), .slice A2 n2 c2, .int .i64 q], .bool true]) ∧ Zn w' A n c X 140 ∧ Zn w' A2 n2 c2 Y 140 ∧ Below w.heap.size w w'
instance {v w : World} {A : Option Addr} {n c : Nat} {l : List Int} : Mv (Rd v v.heap.size A n c l) v w (Rd w w.heap.size A n c l) := ⟨fun h hb => h.go hb⟩
variable {b b2 b3 b4 : Bool} {A A2 A3 A4 : Option Addr} {n c n2 c2 n3 c3 n4 c4 j j2 : Nat} {X Y U V q e : Int} {w : World}
theorem Esmall_any {l : List Int} (h : Rd w w.heap.size A n c l) (hT : Tab w) :
  Calls Tryz.prog 9 #[.agg #[.bool b, .slice A n c, .int .i64 e]] w (EsPost w) := by
 go_enter Tryz.func9, Tryz.ntmps9
 go_wp2_with fail
 refine al2c fun v1 hb x_d x_r => ?_
 replace x_d := Dx.of x_d; replace x_r := Dx.of x_r
 obtain ⟨h, hT⟩ := mv2 hb h hT
 have q_d := x_d.al
 have q_r := x_r.al
 skip
 with_reducible refine (Dcut_at h 2 2 rfl (by omega)).mono ?_
 rintro e v2 ⟨A1, n1, c1, rfl, p1, k1, hb1⟩
 obtain ⟨x_d, x_r, h, hT, hb⟩ := mv5 hb1 x_d x_r h hT hb
 clear hb1
 replace q_d := x_d.al
 replace q_r := x_r.al
 clear h
 obtain ⟨M, z1⟩ : ∃ M, Zr v2 b A1 n1 c1 M 2 := ⟨_, _, p1, rfl, k1⟩
 clear p1 k1
 go_wp2_with fail
 clear q_d q_r
 refine x_d.stc fun v3 hs hx => ?_
 obtain ⟨x_r, hT, z1, hb⟩ := ms4 hs ⟨by omega, hT.neD x_d, trivial, by omega⟩ x_r hT z1 hb
 replace x_d := hx; clear hx hs
 have q_d := x_d.al
 have q_r := x_r.al
 go_wp2_with fail
 with_reducible refine (ZBitLen_any z1).mono ?_
 rintro e v4 ⟨rfl, hb1⟩
 obtain ⟨x_d, x_r, hT, z1, hb⟩ := mv5 hb1 x_d x_r hT z1 hb
 clear hb1
 replace q_d := x_d.al
 replace q_r := x_r.al
 have hbl : bl M.natAbs ≤ 128 := bl_le (Bt.of_si z1.si)
 rcases (show M = 0 ∨ M ≠ 0 by omega) with rfl | h0
 ·rw [show ((bl (0 : Int).natAbs : Nat) : Int) = 0 by rw [show (0 : Int).natAbs = 0 from rfl]; unfold bl; rw [dg_zero]; rfl]
  go_wp2
  clear q_d q_r
  refine x_r.st fun v5 hs hx => ?_
  obtain ⟨x_d, hT, z1, hb⟩ := ms4 hs ⟨by omega, hT.neD x_r, trivial, by omega⟩ x_d hT z1 hb
  replace x_r := hx; clear hx hs
  have q_d := x_d.al
  have q_r := x_r.al
  skip
  refine bodyPost_ret (v := .agg #[.bool false, .slice none 0 0, .int .i64 0]) (by simp [results, Tryz.results9, go_sem, q_r]) rfl ?_
  exact ⟨0, 0, _, _, _, rfl, Zn.nul _ _, Sl.nul, hb⟩
 ·have sl := small_is h0 hbl
  have hp := bl_pos (N := M.natAbs) (by omega)
  obtain ⟨k, hk⟩ : ∃ k, bl M.natAbs = k := ⟨_, rfl⟩
  rw [hk] at sl hp hbl ⊢; clear hk h0
  have hk0 : ((k : Int) == 0) = false := by simp; omega
  have hw : wrap64 (3 - (k : Int)) = 3 - k := by unfold wrap64; omega
  obtain ⟨c1e, c2e⟩ := c_yes (X := M) (e := 3 - k) (by omega)
  have HN : Hid (cM M (3 - k) = M ∧ cE (3 - k) = 3 - k) := Lib.hid ⟨c1e, c2e⟩; clear c1e c2e
  go_wp2_with fail
  with_reducible refine (DOf_any z1 hT 3 (by omega) (by omega)).mono ?_
  rintro e v5 ⟨A5, n5, c5, rfl, z5, hb1⟩
  obtain ⟨x_d, x_r, hT, z1, hb⟩ := mv5 hb1 x_d x_r hT z1 hb
  clear hb1
  replace q_d := x_d.al
  replace q_r := x_r.al
  rw [HN.out.1, HN.out.2] at *
  go_wp2
  clear q_d q_r
  refine x_r.st fun v6 hs hx => ?_
  obtain ⟨x_d, z5, hb⟩ := ms3 hs ⟨by omega, trivial, by omega⟩ x_d z5 hb
  replace x_r := hx; clear hx hs
  have q_d := x_d.al
  have q_r := x_r.al
  skip
  refine bodyPost_ret (v := .agg #[.bool (ngB (od M)), .slice A5 n5 c5, .int .i64 (nE M (3 - k))]) (by simp [results, Tryz.results9, go_sem, q_r]) rfl ?_
  exact ⟨od M, nE M (3 - k), _, _, _, rfl, z5, sl, hb⟩
theorem Ewh_any (hT : Tab w) (K : Int) (hK : od (cM K 0) = K ∧ nE (cM K 0) (cE 0) = 0) (hk : -1000 ≤ K ∧ K ≤ 1000) :
  Calls Tryz.prog 26 #[.int .i64 K] w (OutD w K 0 2) := by
 have HN := Lib.hid hK; clear hK
 go_enter Tryz.func26, Tryz.ntmps26
 go_wp2_with fail
 refine al1c fun v1 hb x_r => ?_
 replace x_r := Dx.of x_r
 replace hT := Mv.mv hT hb
 have q_r := x_r.al
 skip
 with_reducible refine (ZOf_any K (by omega) (by omega)).mono ?_
 rintro e v2 ⟨A1, n1, c1, rfl, z1, hb1⟩
 obtain ⟨x_r, hT, hb⟩ := mv3 hb1 x_r hT hb
 clear hb1
 replace q_r := x_r.al
 go_wp2_with fail
 with_reducible refine (DOf_any z1.zr hT 2 (by omega) (by omega)).mono ?_
 rintro e v3 ⟨A5, n5, c5, rfl, z5, hb1⟩
 obtain ⟨x_r, hT, z1, hb⟩ := mv4 hb1 x_r hT z1 hb
 clear hb1
 replace q_r := x_r.al
 rw [HN.out.1, HN.out.2] at *
 go_wp2
 clear q_r
 refine x_r.st fun v4 hs hx => ?_
 obtain ⟨z5, hb⟩ := ms2 hs ⟨trivial, by omega⟩ z5 hb
 replace x_r := hx; clear hx hs
 have q_r := x_r.al
 skip
 refine bodyPost_ret (v := .agg #[.bool (ngB K), .slice A5 n5 c5, .int .i64 0]) (by simp [results, Tryz.results26, go_sem, q_r]) rfl ?_
 exact ⟨_, _, _, rfl, z5, hb⟩
theorem Eat_of {f K P R : Int} {q : Nat} (hq : q ≤ 2048) (hAt : ∀ w : World, Tab w → Zr w b A n c X 8 → Calls Tryz.prog 29 #[.int .i64 f, .agg #[.bool b, .slice A n c, .int .i64 e], .int .i64 (q : Nat)] w (OuA w P R q K)) (h : Zr w b A n c X 8) (hT : Tab w) (hv : P ≤ R) (hK : -4000 ≤ K ∧ K ≤ 4000) :
  Calls Tryz.prog 12 #[.int .i64 f, .agg #[.bool b, .slice A n c, .int .i64 e], .int .i64 (q : Nat)] w (OuT w (flI P K) (-flI (-R) K) q) := by
 have HA := Lib.hid hAt; clear hAt
 go_enter Tryz.func12, Tryz.ntmps12
 go_wp2_with fail
 refine al2c fun v1 hb x_x x_r => ?_
 replace x_x := Dx.of x_x; replace x_r := Lx.of x_r
 obtain ⟨h, hT⟩ := mv2 hb h hT
 have q_x := x_x.al
 have q_r := x_r.al
 clear q_r
 go_wp2_with fail
 skip
 with_reducible refine (HA.out _ hT h).mono ?_
 rintro e v2 ⟨A5, n5, c5, A6, n6, c6, rfl, z5, z6, hb1⟩
 obtain ⟨x_r, h, hT, hb⟩ := mv4 hb1 x_r h hT hb
 clear hb1
 go_wp2_with fail
 have l_r_b := x_r.lt
 have e_b : w.heap.size ≤ v2.heap.size := hb.size
 refine al1c fun v3 hb1 x_b => ?_
 replace x_b := Lx.of x_b
 obtain ⟨x_r, z5, z6, hb⟩ := mv4 hb1 x_r z5 z6 hb
 clear hb1
 have q_b := x_b.al
 skip
 with_reducible refine (Shift_yes z5.zr z6.zr K ⟨by omega, by omega, hv⟩ hK (by omega) (by omega)).mono ?_
 rintro e v4 ⟨A7, n7, c7, A8, n8, c8, rfl, z7, z8, hb1⟩
 obtain ⟨x_r, z5, z6, hb⟩ := mv4 hb1 x_r z5 z6 hb
 clear hb1
 go_upto_region 3 with fail
 have l_r_o := x_r.lt
 have e_o : w.heap.size ≤ v4.heap.size := hb.size
 refine al1 fun v5 hb1 x_o => ?_
 replace x_o := Lx.of x_o
 obtain ⟨x_r, z7, z8, hb⟩ := mv4 hb1 x_r z7 z8 hb
 clear hb1
 have q_o := x_o.al
 have q_r := x_r.al
 go_wp2
 clear q_r
 refine x_r.st fun v6 hs hx => ?_
 obtain ⟨z7, z8, hb⟩ := ms3 hs ⟨trivial, trivial, by omega⟩ z7 z8 hb
 replace x_r := hx; clear hx hs
 have q_r := x_r.al
 skip
 refine bodyPost_ret (v := .tuple #[.agg #[.bool (ngB (flI P K)), .slice A7 n7 c7, .bool (ngB (-flI (-R) K)), .slice A8 n8 c8, .int .i64 (q : Int)], .bool true]) (by simp [results, Tryz.results12, go_sem, q_r]) rfl ?_
 exact ⟨_, _, _, _, _, _, rfl, z7, z8, hb⟩
end Go.Proofs.YtjlbngjeekdfcaaGreatDoor
