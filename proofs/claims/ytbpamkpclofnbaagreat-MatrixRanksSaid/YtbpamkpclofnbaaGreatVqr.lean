/-
  division of polynomials, step by step.
-/
import Derived.Test.YtbpamkpclofnbaaGreatMcof
import Derived.Test.YtbpamkpclofnbaaGreatMclo
import Derived.Test.YtbpamkpclofnbaaGreatVpush
namespace Go.Proofs.YtbpamkpclofnbaaGreat
open Go.RowKit
open MP.Se (nf co)
set_option linter.unusedVariables false
set_option maxRecDepth 100000

/-- The numbers of Sylvester's matrix; m and n the degrees. -/
def syF (p q : List Int) (m n : Nat) (i k : Nat) : Int := if i < n then cfI p ((m : Int) + i - k) else cfI q ((i : Int) - k)
theorem ent_SylC : ∀ (args : Array Value) (w : World), (callFunc 100 args).run Tryz.prog w = .ok (.enter 100 args) w := enters_of Tryz.func100 (by kernel_rfl) rfl
theorem SylC_any {w : World} {B B2 gn gp gm gq np cp nq cq m n i k J : Nat} {A A2 : Option Addr} {pl ql : List Int} (x_n : Vc w gn 0 (.int .i64 (n : Int))) (x_p : Vc w gp 0 (.slice A np cp)) (x_m : Vc w gm 0 (.int .i64 (m : Int))) (x_q : Vc w gq 0 (.slice A2 nq cq))
    (p : Pe w B A np cp pl J) (q : Pe w B2 A2 nq cq ql J) (hi : i ≤ 1000) (hk : k ≤ 1000) (hm : m ≤ 1000) (hn : n ≤ 1000) (hJ : J ≤ 1000000) :
    Calls Tryz.prog 100 #[.int .i64 (i : Int), .int .i64 (k : Int), .pointer (some ⟨gn, 0, none⟩), .pointer (some ⟨gp, 0, none⟩), .pointer (some ⟨gm, 0, none⟩), .pointer (some ⟨gq, 0, none⟩)] w (OutZ w (syF pl ql m n i k) J) := by
  have hgn := x_n.lt; have hgp := x_p.lt; have hgm := x_m.lt; have hgq := x_q.lt
  have hw1 : IntKind.i64.wrap ((m : Int) + i) = (m : Int) + i := i64_keep (by omega) (by omega)
  have hw2 : IntKind.i64.wrap ((m : Int) + i - k) = (m : Int) + i - k := i64_keep (by omega) (by omega)
  have hw3 : IntKind.i64.wrap ((i : Int) - k) = (i : Int) - k := i64_keep (by omega) (by omega)
  have hb := Below.refl w.heap.size w
  rcases (show i < n ∨ n ≤ i by omega) with h | h
  · have hV : cfI pl ((m : Int) + i - k) = syF pl ql m n i k := by simp [syF, h]
    have HV := Lib.hid hV
    clear hw3 hV
    go_enter Tryz.func100, Tryz.ntmps100
    go_upto_region 1 with fail
    refine al1 fun v1 hb x_r => ?_
    replace x_r := Bx.of x_r
    obtain ⟨x_n, x_p, x_m, p⟩ := mv4 hb x_n x_p x_m p
    have q_r := x_r.al; have q_n := x_n.al; have q_p := x_p.al; have q_m := x_m.al
    go_wp2_with fail
    with_reducible refine (Mcoefficient_any p.pd hJ).mono ?_
    rintro e v2 ⟨A8, n8, c8, rfl, z8, hb1⟩
    rw [HV.out] at z8 ⊢
    obtain ⟨x_r, hb⟩ := mv2 hb1 x_r hb
    clear hb1 q_r q_n q_p q_m
    have q_r := x_r.al
    generalize syF pl ql m n i k = Y at *
    go_wp2
    refine x_r.st fun v3 hs hx => ?_
    have q_x := hx.al
    have hb2 : Below w.heap.size w v3 := ms1 hs (Nat.le_refl _) hb
    have z9 : Zn v3 A8 n8 c8 Y J := Ms.ms hs trivial z8
    refine bodyPost_ret (v := .agg #[.bool (ngB Y), .slice A8 n8 c8]) (by simp [results, Tryz.results100, go_sem, q_x]) rfl ?_
    exact ⟨_, _, _, rfl, z9, hb2⟩
  · have hV : cfI ql ((i : Int) - k) = syF pl ql m n i k := by simp [syF, show ¬ i < n by omega]
    have HV := Lib.hid hV
    clear hw1 hw2 hV
    go_enter Tryz.func100, Tryz.ntmps100
    go_upto_region 1 with fail
    refine al1 fun v1 hb x_r => ?_
    replace x_r := Bx.of x_r
    obtain ⟨x_n, x_q, q⟩ := mv3 hb x_n x_q q
    have q_r := x_r.al; have q_n := x_n.al; have q_p := x_q.al
    go_wp2_with fail
    with_reducible refine (Mcoefficient_any q.pd hJ).mono ?_
    rintro e v2 ⟨A8, n8, c8, rfl, z8, hb1⟩
    rw [HV.out] at z8 ⊢
    obtain ⟨x_r, hb⟩ := mv2 hb1 x_r hb
    clear hb1 q_r q_n q_p
    have q_r := x_r.al
    generalize syF pl ql m n i k = Y at *
    go_wp2
    refine x_r.st fun v3 hs hx => ?_
    have q_x := hx.al
    have hb2 : Below w.heap.size w v3 := ms1 hs (Nat.le_refl _) hb
    have z9 : Zn v3 A8 n8 c8 Y J := Ms.ms hs trivial z8
    refine bodyPost_ret (v := .agg #[.bool (ngB Y), .slice A8 n8 c8]) (by simp [results, Tryz.results100, go_sem, q_x]) rfl ?_
    exact ⟨_, _, _, rfl, z9, hb2⟩
/-- A variable for a number. -/
def Iv (w : World) (g : Nat) (X : Int) : Prop := w.heap[g]? = some (.cells #[.int .i64 X] 3 (0, 0))
section
variable {w v W wx : World} {g h : Nat} {X Y Z U : Int}
theorem Iv.lt (x : Iv w g X) : g < w.heap.size := (Array.getElem?_eq_some_iff.1 x).1
theorem Iv.vc (x : Iv w g X) : Vc w g 0 (.int .i64 X) := Vc.of x
theorem Iv.c0 (x : Iv w g X) : w.cell? ⟨g, 0, none⟩ = some (.int .i64 X) := x.vc.2
theorem Iv.fr (x : Iv w g X) (i : Nat) : w.frozen? ⟨g, i, none⟩ = false := by unfold Iv at x; simp [World.frozen?, x]
theorem Iv.keep (x : Iv W g X) (hb : Below W.heap.size W v) : Iv v g X := (hb.block g x.lt).trans x
theorem Iv.alloc (x : Iv w g X) (o : Obj) : Iv (w.alloc o) g X := x.keep (below_alloc _ _)
theorem Iv.new (w : World) (X : Int) : Iv (w.alloc (.cells #[.int .i64 X] 3)) w.heap.size X := heap_alloc_new w _
theorem Iv.at_size {N : Nat} (h : w.heap.size = N) : Iv (w.alloc (.cells #[.int .i64 X] 3)) N X := by subst h; exact Iv.new _ _
theorem Iv.put (x : Iv w g X) (Y : Int) : Iv (w.setCell ⟨g, 0, none⟩ (.int .i64 Y)) g Y := by
  unfold Iv at x ⊢
  simp [World.setCell, Array.getElem?_modify, x]
theorem Iv.far (x : Iv w h X) (hg : h ≠ g) (u : Value) : Iv (w.setCell ⟨g, 0, none⟩ u) h X := by
  unfold Iv at x ⊢
  simp [World.setCell, Array.getElem?_modify, x, Ne.symm hg]
theorem isz (w : World) (g : Nat) (u : Value) : (w.setCell ⟨g, 0, none⟩ u).heap.size = w.heap.size := by simp [World.setCell]
theorem vfar {d i : Nat} {u u2 : Value} (x : Vc w d i u) (hg : d ≠ g) : Vc (w.setCell ⟨g, 0, none⟩ u2) d i u := ⟨by rw [isz]; exact x.1, (World.cell?_of_block (by simp [World.setCell, Array.getElem?_modify, Ne.symm hg])).trans x.2⟩
theorem Pe.drwP {B n c J : Nat} {A : Option Addr} {l : List Int} (h : Pe w B A n c l J) : Pe w.drew B A n c l J := h
/-- Two new variables for numbers. -/
def InNew2 (v : World) (X Y : Int) (s t : Value) (wx : World) : Prop :=
  ∃ g h, s = .pointer (some ⟨g, 0, none⟩) ∧ t = .pointer (some ⟨h, 0, none⟩) ∧ g ≠ h ∧ Iv wx g X ∧ Iv wx h Y ∧ v.heap.size ≤ g ∧ v.heap.size ≤ h ∧ Below v.heap.size v wx
theorem InNew2.ee (hv : Below v.heap.size v wx) (x6 : Iv wx g Z) (hg : v.heap.size ≤ g) (x7 : Iv wx h U) (hh : v.heap.size ≤ h) (hne : g ≠ h) : InNew2 v X Y (.pointer (some ⟨g, 0, none⟩)) (.pointer (some ⟨h, 0, none⟩)) ((wx.setCell ⟨g, 0, none⟩ (.int .i64 X)).setCell ⟨h, 0, none⟩ (.int .i64 Y)) :=
  ⟨g, h, rfl, rfl, hne, (x6.put _).far hne _, (x7.far (Ne.symm hne) _).put _, hg, hh, (hv.setCell hg _).setCell hh _⟩
theorem InNew2.el (hv : Below v.heap.size v wx) (x6 : Iv wx g Z) (hg : v.heap.size ≤ g) : InNew2 v X Y (.pointer (some ⟨g, 0, none⟩)) (.pointer (some ⟨wx.heap.size, 0, none⟩)) ((wx.setCell ⟨g, 0, none⟩ (.int .i64 X)).alloc (.cells #[.int .i64 Y] 3)) :=
  ⟨g, wx.heap.size, rfl, rfl, Nat.ne_of_lt x6.lt, (x6.put _).alloc _, Iv.at_size (isz _ _ _), hg, hv.size, bthen (hv.setCell hg _) (below_alloc _ _)⟩
theorem InNew2.le (hv : Below v.heap.size v wx) (x6 : Iv wx g Z) (hg : v.heap.size ≤ g) : InNew2 v X Y (.pointer (some ⟨g, 0, none⟩)) (.pointer (some ⟨wx.heap.size, 0, none⟩)) ((wx.alloc (.cells #[.int .i64 Y] 3)).setCell ⟨g, 0, none⟩ (.int .i64 X)) :=
  ⟨g, wx.heap.size, rfl, rfl, Nat.ne_of_lt x6.lt, (x6.alloc _).put _, (Iv.new _ _).far (Ne.symm (Nat.ne_of_lt x6.lt)) _, hg, hv.size, (bthen hv (below_alloc _ _)).setCell hg _⟩
theorem InNew2.gl (hv : Below v.heap.size v wx) (x7 : Iv wx h Z) (hh : v.heap.size ≤ h) : InNew2 v X Y (.pointer (some ⟨wx.heap.size, 0, none⟩)) (.pointer (some ⟨h, 0, none⟩)) ((wx.setCell ⟨h, 0, none⟩ (.int .i64 Y)).alloc (.cells #[.int .i64 X] 3)) :=
  ⟨wx.heap.size, h, rfl, rfl, Ne.symm (Nat.ne_of_lt x7.lt), Iv.at_size (isz _ _ _), (x7.put _).alloc _, hv.size, hh, bthen (hv.setCell hh _) (below_alloc _ _)⟩
theorem InNew2.lg (hv : Below v.heap.size v wx) (x7 : Iv wx h Z) (hh : v.heap.size ≤ h) : InNew2 v X Y (.pointer (some ⟨wx.heap.size, 0, none⟩)) (.pointer (some ⟨h, 0, none⟩)) ((wx.alloc (.cells #[.int .i64 X] 3)).setCell ⟨h, 0, none⟩ (.int .i64 Y)) :=
  ⟨wx.heap.size, h, rfl, rfl, Ne.symm (Nat.ne_of_lt x7.lt), (Iv.new _ _).far (Ne.symm (Nat.ne_of_lt x7.lt)) _, (x7.alloc _).put _, hv.size, hh, (bthen hv (below_alloc _ _)).setCell hh _⟩
theorem InNew2.ll (hv : Below v.heap.size v wx) : InNew2 v X Y (.pointer (some ⟨wx.heap.size, 0, none⟩)) (.pointer (some ⟨wx.heap.size + 1, 0, none⟩)) ((wx.alloc (.cells #[.int .i64 X] 3)).alloc (.cells #[.int .i64 Y] 3)) :=
  ⟨wx.heap.size, wx.heap.size + 1, rfl, rfl, by omega, (Iv.new _ _).alloc _, Iv.at_size (alloc_size _ _), hv.size, Nat.le_succ_of_le hv.size, bthen hv (below_alloc2 _ _ _)⟩
theorem InNew2.mm (hv : Below v.heap.size v wx) : InNew2 v X Y (.pointer (some ⟨wx.heap.size + 1, 0, none⟩)) (.pointer (some ⟨wx.heap.size, 0, none⟩)) ((wx.alloc (.cells #[.int .i64 Y] 3)).alloc (.cells #[.int .i64 X] 3)) :=
  ⟨wx.heap.size + 1, wx.heap.size, rfl, rfl, by omega, Iv.at_size (alloc_size _ _), (Iv.new _ _).alloc _, Nat.le_succ_of_le hv.size, hv.size, bthen hv (below_alloc2 _ _ _)⟩
end
/-- What Sylvester tells. -/
def SyP (w : World) (p q : List Int) (K : Nat) (e : Ending) (w' : World) : Prop :=
  (nf p ≠ [] ∧ nf q ≠ [] ∧ 0 < (nf p).length - 1 + ((nf q).length - 1) ∧
    OutM w (mo2 (syF p q ((nf p).length - 1) ((nf q).length - 1)) ((nf p).length - 1 + ((nf q).length - 1)) ((nf p).length - 1 + ((nf q).length - 1))) K e w') ∨
  ((nf p = [] ∨ nf q = [] ∨ (nf p).length - 1 + ((nf q).length - 1) = 0) ∧ ErM w 1 e w')
set_option maxHeartbeats 2000000 in
theorem MSylvester_any {w : World} {np cp nq cq J : Nat} {A A2 : Option Addr} {pl ql : List Int} (p : Pd w w.heap.size A np cp pl J) (q : Pd w w.heap.size A2 nq cq ql J) (hp : np ≤ 400) (hq : nq ≤ 400) (hJ : J ≤ 1000000) :
    Calls Tryz.prog 45 #[.slice A np cp, .slice A2 nq cq] w (SyP w pl ql J) := by
  have hlp := p.len; have hlq := q.len
  have hl1 := MP.Se.nf_len pl; have hl2 := MP.Se.nf_len ql
  replace p : Pe w w.heap.size A np cp pl J := ⟨Nat.le_refl _, p⟩
  replace q : Pe w w.heap.size A2 nq cq ql J := ⟨Nat.le_refl _, q⟩
  obtain ⟨M, hM⟩ : ∃ M, (nf pl).length = M := ⟨_, rfl⟩
  obtain ⟨N, hN⟩ : ∃ M, (nf ql).length = M := ⟨_, rfl⟩
  have hMb : M ≤ 400 := by omega
  have hNb : N ≤ 400 := by omega
  have HM := Lib.hid hM; have HN := Lib.hid hN
  clear hl1 hl2 hM hN
  go_enter Tryz.func45, Tryz.ntmps45
  go_upto_region 1 with fail
  refine al2 fun v1 hb x_p x_q => ?_
  replace x_p := Vc.of x_p; replace x_q := Vc.of x_q
  obtain ⟨p, q⟩ := mv2 hb p q
  have hv := Below.refl v1.heap.size v1
  have l_p := x_p.lt; have l_q := x_q.lt
  have q_p := x_p.al; have q_q := x_q.al
  go_cut [6, 7] (fun s9 t9 wx => InNew2 v1 ((M : Int) - 1) ((N : Int) - 1) s9 t9 wx)
  case first =>
    go_region_held3 (fun w' => w'.cell? ⟨w.heap.size, 0, none⟩ = some (.slice A np cp) ∧ w'.cell? ⟨w.heap.size + 1, 0, none⟩ = some (.slice A2 nq cq))
      (first | (with_reducible exact ⟨(x_p).c0, (x_q).c0⟩) | (with_reducible exact ⟨((x_p).alloc _).c0, ((x_q).alloc _).c0⟩) | (with_reducible exact ⟨(((x_p).alloc _).alloc _).c0, (((x_q).alloc _).alloc _).c0⟩) | (with_reducible exact ⟨(vfar (x_p) (by omega)).c0, (vfar (x_q) (by omega)).c0⟩) | (with_reducible exact ⟨(vfar ((x_p).alloc _) (by omega)).c0, (vfar ((x_q).alloc _) (by omega)).c0⟩) | (with_reducible exact ⟨((vfar (x_p) (by omega)).alloc _).c0, ((vfar (x_q) (by omega)).alloc _).c0⟩) | (with_reducible exact ⟨(vfar (((x_p).alloc _).alloc _) (by omega)).c0, (vfar (((x_q).alloc _).alloc _) (by omega)).c0⟩) | (with_reducible exact ⟨(vfar (vfar (x_p) (by omega)) (by omega)).c0, (vfar (vfar (x_q) (by omega)) (by omega)).c0⟩) | (with_reducible exact ⟨(vfar (vfar ((x_p).alloc _) (by omega)) (by omega)).c0, (vfar (vfar ((x_q).alloc _) (by omega)) (by omega)).c0⟩) | (with_reducible exact ⟨(vfar ((vfar (x_p) (by omega)).alloc _) (by omega)).c0, (vfar ((vfar (x_q) (by omega)).alloc _) (by omega)).c0⟩) | (with_reducible exact ⟨(vfar (vfar (((x_p).alloc _).alloc _) (by omega)) (by omega)).c0, (vfar (vfar (((x_q).alloc _).alloc _) (by omega)) (by omega)).c0⟩) | go_keep)
      (first | (go_at_call 55; (with_reducible refine (PDegree_any p.drwP.pd (by omega)).mono ?_); rintro e v2 ⟨rfl, hb1⟩; replace hb1 := undrew hb1; (try replace x_n1 := x_n1.keep hb1); (try replace x_n2 := x_n2.keep hb1); replace hv := bthen hv hb1; have hvs_v2 := hv.size; obtain ⟨x_p, x_q, p, q⟩ := mv4 hb1 x_p x_q p q; clear hb1; replace q_p := x_p.al; replace q_q := x_q.al; rw [HM.out]; (try (have q_n1 := x_n1.c0; have f_n1 := x_n1.fr 0; have lt_n1 := x_n1.lt; have y_n1 := x_n1.alloc (.cells #[.int .i64 0] 3); have qy_n1 := y_n1.c0; have fy_n1 := y_n1.fr 0)); (try (have q_n2 := x_n2.c0; have f_n2 := x_n2.fr 0; have lt_n2 := x_n2.lt; have y_n2 := x_n2.alloc (.cells #[.int .i64 0] 3); have qy_n2 := y_n2.c0; have fy_n2 := y_n2.fr 0))) | (go_at_call 55; (with_reducible refine (PDegree_any (p.keep (below_alloc v1 (.cells #[.int .i64 0] 3))).drwP.pd (by omega)).mono ?_); rintro e v2 ⟨rfl, hb1⟩; replace hb1 := undrew hb1; (first | (have lt_n := x_n1.lt; replace x_n1 := x_n1.keep (bthen (below_alloc v1 (.cells #[.int .i64 0] 3)) hb1); have x_n2 := (Iv.new v1 0).keep hb1) | (have x_n1 := (Iv.new v1 0).keep hb1)); replace hb1 := bthen (below_alloc v1 (.cells #[.int .i64 0] 3)) hb1; replace hv := bthen hv hb1; have hvs_v2 := hv.size; obtain ⟨x_p, x_q, p, q⟩ := mv4 hb1 x_p x_q p q; clear hb1; replace q_p := x_p.al; replace q_q := x_q.al; rw [HM.out]; (try (have q_n1 := x_n1.c0; have f_n1 := x_n1.fr 0; have lt_n1 := x_n1.lt; have y_n1 := x_n1.alloc (.cells #[.int .i64 0] 3); have qy_n1 := y_n1.c0; have fy_n1 := y_n1.fr 0)); (try (have q_n2 := x_n2.c0; have f_n2 := x_n2.fr 0; have lt_n2 := x_n2.lt; have y_n2 := x_n2.alloc (.cells #[.int .i64 0] 3); have qy_n2 := y_n2.c0; have fy_n2 := y_n2.fr 0))) | (go_at_call 55; (with_reducible refine (PDegree_any (p.keep (below_alloc2 v1 (.cells #[.int .i64 0] 3) (.cells #[.int .i64 0] 3))).drwP.pd (by omega)).mono ?_); rintro e v2 ⟨rfl, hb1⟩; replace hb1 := undrew hb1; have x_n1 := ((Iv.new v1 0).alloc (.cells #[.int .i64 0] 3)).keep hb1; have x_n2 := (Iv.at_size (alloc_size v1 (.cells #[.int .i64 0] 3)) : Iv ((v1.alloc (.cells #[.int .i64 0] 3)).alloc (.cells #[.int .i64 0] 3)) (v1.heap.size + 1) 0).keep hb1; replace hb1 := bthen (below_alloc2 v1 (.cells #[.int .i64 0] 3) (.cells #[.int .i64 0] 3)) hb1; replace hv := bthen hv hb1; have hvs_v2 := hv.size; obtain ⟨x_p, x_q, p, q⟩ := mv4 hb1 x_p x_q p q; clear hb1; replace q_p := x_p.al; replace q_q := x_q.al; rw [HM.out]; (try (have q_n1 := x_n1.c0; have f_n1 := x_n1.fr 0; have lt_n1 := x_n1.lt; have y_n1 := x_n1.alloc (.cells #[.int .i64 0] 3); have qy_n1 := y_n1.c0; have fy_n1 := y_n1.fr 0)); (try (have q_n2 := x_n2.c0; have f_n2 := x_n2.fr 0; have lt_n2 := x_n2.lt; have y_n2 := x_n2.alloc (.cells #[.int .i64 0] 3); have qy_n2 := y_n2.c0; have fy_n2 := y_n2.fr 0))) | (go_at_call 55; (with_reducible refine (PDegree_any q.pd (by omega)).mono ?_); rintro e v3 ⟨rfl, hb1⟩; (try replace x_n1 := x_n1.keep hb1); (try replace x_n2 := x_n2.keep hb1); replace hv := bthen hv hb1; have hvs_v3 := hv.size; obtain ⟨x_p, x_q, p, q⟩ := mv4 hb1 x_p x_q p q; clear hb1; replace q_p := x_p.al; replace q_q := x_q.al; rw [HN.out]; (try (have q_n1 := x_n1.c0; have f_n1 := x_n1.fr 0; have lt_n1 := x_n1.lt; have y_n1 := x_n1.alloc (.cells #[.int .i64 0] 3); have qy_n1 := y_n1.c0; have fy_n1 := y_n1.fr 0)); (try (have q_n2 := x_n2.c0; have f_n2 := x_n2.fr 0; have lt_n2 := x_n2.lt; have y_n2 := x_n2.alloc (.cells #[.int .i64 0] 3); have qy_n2 := y_n2.c0; have fy_n2 := y_n2.fr 0))) | (go_at_call 55; (with_reducible refine (PDegree_any (q.keep (below_alloc v2 (.cells #[.int .i64 0] 3))).pd (by omega)).mono ?_); rintro e v3 ⟨rfl, hb1⟩; (first | (have lt_n := x_n1.lt; replace x_n1 := x_n1.keep (bthen (below_alloc v2 (.cells #[.int .i64 0] 3)) hb1); have x_n2 := (Iv.new v2 0).keep hb1) | (have x_n1 := (Iv.new v2 0).keep hb1)); replace hb1 := bthen (below_alloc v2 (.cells #[.int .i64 0] 3)) hb1; replace hv := bthen hv hb1; have hvs_v3 := hv.size; obtain ⟨x_p, x_q, p, q⟩ := mv4 hb1 x_p x_q p q; clear hb1; replace q_p := x_p.al; replace q_q := x_q.al; rw [HN.out]; (try (have q_n1 := x_n1.c0; have f_n1 := x_n1.fr 0; have lt_n1 := x_n1.lt; have y_n1 := x_n1.alloc (.cells #[.int .i64 0] 3); have qy_n1 := y_n1.c0; have fy_n1 := y_n1.fr 0)); (try (have q_n2 := x_n2.c0; have f_n2 := x_n2.fr 0; have lt_n2 := x_n2.lt; have y_n2 := x_n2.alloc (.cells #[.int .i64 0] 3); have qy_n2 := y_n2.c0; have fy_n2 := y_n2.fr 0))) | (go_at_call 55; (with_reducible refine (PDegree_any (q.keep (below_alloc2 v2 (.cells #[.int .i64 0] 3) (.cells #[.int .i64 0] 3))).pd (by omega)).mono ?_); rintro e v3 ⟨rfl, hb1⟩; have x_n1 := ((Iv.new v2 0).alloc (.cells #[.int .i64 0] 3)).keep hb1; have x_n2 := (Iv.at_size (alloc_size v2 (.cells #[.int .i64 0] 3)) : Iv ((v2.alloc (.cells #[.int .i64 0] 3)).alloc (.cells #[.int .i64 0] 3)) (v2.heap.size + 1) 0).keep hb1; replace hb1 := bthen (below_alloc2 v2 (.cells #[.int .i64 0] 3) (.cells #[.int .i64 0] 3)) hb1; replace hv := bthen hv hb1; have hvs_v3 := hv.size; obtain ⟨x_p, x_q, p, q⟩ := mv4 hb1 x_p x_q p q; clear hb1; replace q_p := x_p.al; replace q_q := x_q.al; rw [HN.out]; (try (have q_n1 := x_n1.c0; have f_n1 := x_n1.fr 0; have lt_n1 := x_n1.lt; have y_n1 := x_n1.alloc (.cells #[.int .i64 0] 3); have qy_n1 := y_n1.c0; have fy_n1 := y_n1.fr 0)); (try (have q_n2 := x_n2.c0; have f_n2 := x_n2.fr 0; have lt_n2 := x_n2.lt; have y_n2 := x_n2.alloc (.cells #[.int .i64 0] 3); have qy_n2 := y_n2.c0; have fy_n2 := y_n2.fr 0))))
    all_goals go_wp2_with fail
    all_goals go_meet
    all_goals first | (with_reducible exact InNew2.ll hv) | (with_reducible exact InNew2.mm hv) | (with_reducible exact InNew2.el hv x_n1 (by omega)) | (with_reducible exact InNew2.le hv x_n1 (by omega)) | (with_reducible exact InNew2.gl hv x_n1 (by omega)) | (with_reducible exact InNew2.lg hv x_n1 (by omega)) | (with_reducible exact InNew2.el hv x_n2 (by omega)) | (with_reducible exact InNew2.le hv x_n2 (by omega)) | (with_reducible exact InNew2.gl hv x_n2 (by omega)) | (with_reducible exact InNew2.lg hv x_n2 (by omega)) | (with_reducible exact InNew2.ee hv x_n1 (by omega) x_n2 (by omega) (by omega)) | (with_reducible exact InNew2.ee hv x_n2 (by omega) x_n1 (by omega) (by omega))
  case rest =>
    obtain ⟨gm, gn, rfl, rfl, ne_mn, x_m, x_n, e_m, e_n, hb1⟩ := hcut
    clear hv
    obtain ⟨x_p, x_q, p, q, hb⟩ := mv5 hb1 x_p x_q p q hb
    clear hb1 q_p q_q
    generalize wc = v4 at *
    have q_m := x_m.c0; have q_n := x_n.c0
    have q_p := x_p.al; have q_q := x_q.al
    by_cases h0 : M = 0 ∨ N = 0 ∨ M - 1 + (N - 1) = 0
    · have HZ : Hid (nf pl = [] ∨ nf ql = [] ∨ (nf pl).length - 1 + ((nf ql).length - 1) = 0) := Lib.hid (by rw [HM.out, HN.out]; rcases h0 with h | h | h; exact .inl (List.eq_nil_of_length_eq_zero (by rw [HM.out]; exact h)); exact .inr (.inl (List.eq_nil_of_length_eq_zero (by rw [HN.out]; exact h))); exact .inr (.inr h))
      clear p q
      have hd : M = 0 ∨ (0 < M ∧ N = 0) ∨ (M = 1 ∧ N = 1) := by omega
      clear h0
      rcases hd with h | h | h
      all_goals (first | (obtain ⟨h, h'⟩ := h; try subst h; try subst h') | subst h)
      all_goals go_wp2
      all_goals (go_ret2; exact .inr ⟨HZ.out, rfl, hb⟩)
    · obtain ⟨m, hm⟩ : ∃ m, M = m + 1 := ⟨M - 1, by omega⟩
      obtain ⟨n, hn⟩ : ∃ n, N = n + 1 := ⟨N - 1, by omega⟩
      have e1 : (M : Int) - 1 = (m : Int) := by omega
      have e2 : (N : Int) - 1 = (n : Int) := by omega
      rw [e1] at x_m q_m; rw [e2] at x_n q_n
      have hmn : 0 < m + n := by omega
      obtain ⟨T, hT⟩ : ∃ T, m + n = T := ⟨_, rfl⟩
      have hw : IntKind.i64.wrap ((m : Int) + n) = (T : Int) := by rw [i64_keep (by omega) (by omega)]; omega
      have HZ : Hid (nf pl ≠ [] ∧ nf ql ≠ [] ∧ 0 < (nf pl).length - 1 + ((nf ql).length - 1) ∧ (nf pl).length - 1 = m ∧ (nf ql).length - 1 = n) := Lib.hid (by rw [HM.out, HN.out]; exact ⟨fun e => by have := HM.out; rw [e] at this; simp at this; omega, fun e => by have := HN.out; rw [e] at this; simp at this; omega, by omega, by omega, by omega⟩)
      have C : Bc v4 100 #[.pointer (some ⟨gn, 0, none⟩), .pointer (some ⟨w.heap.size, 0, none⟩), .pointer (some ⟨gm, 0, none⟩), .pointer (some ⟨w.heap.size + 1, 0, none⟩)] (syF pl ql m n) T T J := ⟨ent_SylC, fun w3 i k hi hk hb3 => SylC_any (x_n.vc.keep hb3) (x_p.keep hb3) (x_m.vc.keep hb3) (x_q.keep hb3) (p.keep hb3) (q.keep hb3) (by omega) (by omega) (by omega) (by omega) hJ⟩
      have HC := Lib.hid C; have HT := Lib.hid hT
      have hT0 : 0 < T := by omega
      have hd1 : decide ((m : Int) < 0) = false := decide_eq_false (by omega)
      have hd2 : decide ((n : Int) < 0) = false := decide_eq_false (by omega)
      have hd3 : ((T : Int) == 0) = false := by simp; omega
      have hd4 : ¬ (m : Int) < 0 := by omega
      have hd5 : ¬ (n : Int) < 0 := by omega
      have hT1 : T ≤ 1000 := by omega
      clear C p q h0 hm hn e1 e2 hT hmn
      go_wp2_with fail
      with_reducible refine (Mbuild_any HC.out hT1 hT1 hJ).mono ?_
      rintro e v5 ⟨A9, c9, rfl, p9, hb1⟩
      replace hb := bthen hb hb1
      clear hb1 HC q_m q_n q_p q_q
      go_wp2
      go_ret2
      obtain ⟨h1, h2, h3, h4, h5⟩ := HZ.out
      refine .inl ⟨h1, h2, h3, ?_⟩
      rw [h4, h5, HT.out]
      exact ⟨_, _, _, rfl, p9, hb⟩
end Go.Proofs.YtbpamkpclofnbaaGreat
namespace Go.Proofs.YtbpamkpclofnbaaGreat
open Go.RowKit
open MP.Se (nf co)
set_option linter.unusedVariables false
set_option maxRecDepth 100000

theorem ent_Stretch : ∀ (args : Array Value) (w : World), (callFunc 152 args).run Tryz.prog w = .ok (.enter 152 args) w := enters_of Tryz.func152 (by kernel_rfl) rfl
/-- The function keeps the next power in block gp. -/
def StrI (gp gc : Nat) (b : Bool) (A2 : Option Addr) (n2 c2 : Nat) (X : Int) (J2 : Nat) (w : World) (k : Nat) : Prop :=
  gp ≠ gc ∧ Bx w gc b A2 n2 c2 ∧ Zr w b A2 n2 c2 X J2 ∧ ∃ A n c, Bx w gp (ngB (X ^ k)) A n c ∧ Zn w A n c (X ^ k) (k * J2 + 1)
theorem Stretch1_any {gp gc k n c n2 c2 J J2 K : Nat} {A A2 : Option Addr} {b b2 : Bool} {X Y : Int} {w : World} (I : StrI gp gc b A2 n2 c2 X J2 w k) (z : Zr w b2 A n c Y J) (hK : J + (k + 1) * J2 + 1 ≤ K) (hK2 : K ≤ 900000) :
    Calls Tryz.prog 152 #[.agg #[.bool b2, .slice A n c], .pointer (some ⟨gp, 0, none⟩), .pointer (some ⟨gc, 0, none⟩)] w fun e w' => ∃ A' n' c', e = .returned (.agg #[.bool (ngB (Y * X ^ k)), .slice A' n' c']) ∧ Zn w' A' n' c' (Y * X ^ k) K ∧ StrI gp gc b A2 n2 c2 X J2 w' (k + 1) ∧ Fz (fun b => b = gp) w w' := by
  obtain ⟨hne, x_c, z2, A3, n3, c3, x_p, z3⟩ := I
  have hpw : Hid (X ^ k * X = X ^ (k + 1)) := Lib.hid (Int.pow_succ X k).symm
  obtain ⟨V, hV⟩ : ∃ V, X ^ k = V := ⟨_, rfl⟩
  rw [hV] at x_p z3 hpw ⊢
  have HV := Lib.hid hV; clear hV
  have hkJ : k * J2 + J2 = (k + 1) * J2 := by rw [Nat.add_mul]; omega
  obtain ⟨K0, hK0⟩ : ∃ K0, k * J2 + 1 = K0 := ⟨_, rfl⟩
  obtain ⟨K1, hK1⟩ : ∃ K1, (k + 1) * J2 + 1 = K1 := ⟨_, rfl⟩
  have h01 : K0 + J2 = K1 := by omega
  rw [hK0] at z3
  replace hK : J + K1 ≤ K := by omega
  have HK1 := Lib.hid hK1; clear hK0 hK1 hkJ
  have lp := x_p.lt; have lc := x_c.lt
  go_enter Tryz.func152, Tryz.ntmps152
  go_upto_region 1 with fail
  refine al2 fun v1 hb x_x x_r => ?_
  replace x_x := Bx.of x_x; replace x_r := Bx.of x_r
  obtain ⟨x_c, x_p, z, z2, z3⟩ := mv5 hb x_c x_p z z2 z3
  replace hb : Fz (fun b => b = gp) w v1 := Fz.of hb
  have q_x := x_x.al
  have q_r := x_r.al
  have q_c := x_c.al
  have q_p := x_p.al
  go_wp2_with fail
  with_reducible refine (ZMul_any z z3.zr K (by omega) (by omega)).mono ?_
  rintro e v2 ⟨A6, n6, c6, rfl, z6, hb1⟩
  obtain ⟨x_x, x_r, x_c, x_p, z, z2, z3, hb⟩ := mv8 hb1 x_x x_r x_c x_p z z2 z3 hb
  clear hb1
  replace q_x := x_x.al
  replace q_r := x_r.al
  replace q_c := x_c.al
  replace q_p := x_p.al
  go_wp2_with fail
  clear q_x q_r q_c q_p
  refine x_x.stc fun v3 hs hx => ?_
  obtain ⟨x_r, x_c, x_p, z, z2, z3, z6, hb⟩ := ms8 hs ⟨by omega, by omega, by omega, trivial, trivial, trivial, trivial, by first | exact .inl (by omega) | exact .inr rfl⟩ x_r x_c x_p z z2 z3 z6 hb
  replace x_x := hx; clear hx hs
  have q_x := x_x.al
  have q_r := x_r.al
  have q_c := x_c.al
  have q_p := x_p.al
  with_reducible refine (ZMul_any z3.zr z2 K1 (by omega) (by omega)).mono ?_
  rintro e v4 ⟨A7, n7, c7, rfl, z7, hb1⟩
  obtain ⟨x_x, x_r, x_c, x_p, z, z2, z3, z6, hb⟩ := mv9 hb1 x_x x_r x_c x_p z z2 z3 z6 hb
  clear hb1
  replace q_x := x_x.al
  replace q_r := x_r.al
  replace q_c := x_c.al
  replace q_p := x_p.al
  go_upto_region 3 with fail
  clear q_x q_r q_c q_p
  refine x_p.st fun v5 hs hx => ?_
  obtain ⟨x_x, x_r, x_c, z, z2, z3, z6, z7, hb⟩ := ms9 hs ⟨by omega, by omega, by omega, trivial, trivial, trivial, trivial, trivial, by first | exact .inl (by omega) | exact .inr rfl⟩ x_x x_r x_c z z2 z3 z6 z7 hb
  replace x_p := hx; clear hx hs
  have q_x := x_x.al
  have q_r := x_r.al
  have q_c := x_c.al
  have q_p := x_p.al
  go_wp2
  clear q_x q_r q_c q_p
  refine x_r.st fun v6 hs hx => ?_
  obtain ⟨x_x, x_c, x_p, z, z2, z3, z6, z7, hb⟩ := ms9 hs ⟨by omega, by omega, by omega, trivial, trivial, trivial, trivial, trivial, by first | exact .inl (by omega) | exact .inr rfl⟩ x_x x_c x_p z z2 z3 z6 z7 hb
  replace x_r := hx; clear hx hs
  have q_x := x_x.al
  have q_r := x_r.al
  have q_c := x_c.al
  have q_p := x_p.al
  rw [← HK1.out, hpw.out] at z7
  rw [hpw.out] at x_p
  skip
  refine bodyPost_ret (v := .agg #[.bool (ngB (Y * V)), .slice A6 n6 c6]) (by simp [results, Tryz.results152, go_sem, q_r]) rfl ?_
  exact ⟨_, _, _, rfl, z6, ⟨hne, x_c, z2, _, _, _, x_p, z7⟩, hb⟩
theorem PStretch_any {A A2 : Option Addr} {n c n2 c2 J J2 K : Nat} {b : Bool} {X : Int} {l : List Int} {w : World} (h : Pd w w.heap.size A n c l J) (z : Zr w b A2 n2 c2 X J2) (hK : J + n * J2 + 1 ≤ K) (hK2 : K ≤ 900000) :
    Calls Tryz.prog 117 #[.slice A n c, .agg #[.bool b, .slice A2 n2 c2]] w (OutS w (MP.Se.pu (co l) (MP.Se.xc X)) K) := by
  have hl := h.len
  have hle := MP.Se.nf_len l
  have hKN : ∀ k, k < (nf l).length → J + (k + 1) * J2 + 1 ≤ K := fun k hk => by
    have : (k + 1) * J2 ≤ n * J2 := Nat.mul_le_mul_right _ (by omega)
    omega
  have HKN := Lib.hid hKN
  have hJ1 : J ≤ 900000 := by omega
  clear hKN hK hle
  replace h := h.pe
  go_enter Tryz.func117, Tryz.ntmps117
  go_upto_region 1 with fail
  refine al1 fun v1 hb x_c => ?_
  replace x_c := Bx.of x_c
  obtain ⟨h, z⟩ := mv2 hb h z
  go_wp2_with fail
  with_reducible refine (ZOf_any 1 (by omega) (by omega)).mono ?_
  rintro e v2 ⟨A3, n3, c3, rfl, z3, hb1⟩
  obtain ⟨x_c, h, z, hb⟩ := mv4 hb1 x_c h z hb
  clear hb1
  go_upto_region 2 with fail
  have lc := x_c.lt
  refine al1 fun v3 hb1 x_p => ?_
  replace x_p := Bx.of x_p
  have hgp := hb.size
  obtain ⟨x_c, h, z, z3, hb⟩ := mv5 hb1 x_c h z z3 hb
  clear hb1
  obtain ⟨gp, hg⟩ : ∃ g, v2.heap.size = g := ⟨_, rfl⟩
  rw [hg] at x_p hgp lc
  simp only [hg]
  clear hg
  have lp := x_p.lt
  have C : Ch (fun b => b = gp) v3.heap.size 152 #[.pointer (some ⟨gp, 0, none⟩), .pointer (some ⟨w.heap.size, 0, none⟩)] (StrI gp w.heap.size b A2 n2 c2 X J2) (fun k x => x * X ^ k) (nf l) J K := by
    refine ⟨ent_Stretch, fun b hb => by omega, fun w1 w2 k I f => ?_, fun w1 k hk b9 A9 n9 c9 I z9 => Stretch1_any I z9 (HKN.out k hk) hK2⟩
    obtain ⟨hne, i1, i2, A9, n9, c9, i3, i4⟩ := I
    exact ⟨hne, i1.via f (by omega), i2.via f, A9, n9, c9, i3.via f (by omega), i4.via f⟩
  have hI : StrI gp w.heap.size b A2 n2 c2 X J2 v3 0 := ⟨by omega, x_c, z, A3, n3, c3, by rw [Int.pow_zero]; exact x_p, by rw [Int.pow_zero, Nat.zero_mul]; exact z3⟩
  have HC := Lib.hid C; have HI := Lib.hid hI
  have hp0 := h.2; have hB0 := h.1
  clear C hI z3 x_p x_c z h
  go_wp2_with fail
  with_reducible refine (Peach_any HC.out hp0 hB0 (fun b hb => by omega) (Nat.le_refl _) HI.out (by omega) (by omega)).mono ?_
  rintro e w' ⟨A', m, c', rfl, hp, _, hf⟩
  replace hp := hp.more hb.size
  replace hb : Below w.heap.size w w' := Fz.below (P := fun _ => False) ((Fz.of hb).more hf (fun b hb e => by omega)) (fun b hb h => h)
  clear hf
  go_wp2
  go_ret
  exact ⟨_, MP.Se.nm_nf _, MP.Se.co_stretch l X, A', m, c', rfl, hp, hb⟩
end Go.Proofs.YtbpamkpclofnbaaGreat
namespace Go.Proofs.YtbpamkpclofnbaaGreat.MP
set_option linter.unusedVariables false
set_option linter.unusedSimpArgs false
namespace Se
variable {p q r s t S : Se} {l m P Q R R0 R2 : List Int} {a b x f : Int} {n k i j d T : Nat}
theorem mo_mul_at (k : Nat) (f : Int) (q : Se) (i : Nat) : (mo k f * q) i = if i < k then 0 else f * q (i - k) := by
  induction k generalizing i with
  | zero => rw [mo_0, c_mul, sm_at]; simp
  | succ k ih =>
    rw [mo_succ, sh_mul]
    cases i with
    | zero => simp [sh_0]
    | succ i =>
      rw [sh_at, ih]
      by_cases h : i < k
      · rw [if_pos h, if_pos (by omega)]
      · rw [if_neg h, if_neg (by omega)]; congr 2; omega
theorem co_set_at (hk : k < l.length) (a : Int) (i : Nat) : (co (l.set k a)) i = if i = k then a else (co l) i := by
  by_cases h : i = k
  · subst h; rw [if_pos rfl, co_at (by simpa using hk)]; simp
  · rw [if_neg h]; simp [co, Ne.symm h]
theorem co_out (h : l.length ≤ i) : (co l) i = 0 := co_bd l i h
theorem co_take_at (l : List Int) (n i : Nat) : (co (l.take n)) i = if i < n then (co l) i else 0 := by
  simp only [co, List.getD_eq_getElem?_getD, List.getElem?_take]
  split <;> simp
/-- Divide: the state when k places of the quotient are left. -/
structure DvI (P Q t R : List Int) (d k : Nat) : Prop where
  eq : co P = co Q * co t + co R
  bd : Bd (co R) (d + k)
  z : ∀ i, i < k → (co t) i = 0
theorem DvI.step (h : DvI P Q m R d (k + 1)) (hQ : Q.length = d + 1) (hk : k < m.length) (hf : (co R) (k + d) = f * (co Q) d) (hR : co R2 = co R - mo k f * co Q) : DvI P Q (m.set k f) R2 d k := by
  have hz := h.z k (Nat.lt_succ_self k)
  have e : co (m.set k f) = co m + mo k f := by
    rw [co_set' hk, ← co_at hk, hz, Int.sub_zero]
  refine ⟨?_, fun i hi => ?_, fun i hi => ?_⟩
  · rw [e, hR, h.eq, mul_add, mul_comm (mo k f), sub_eq, add_assoc, add_comm (co R), ← add_assoc (co Q * mo k f), add_neg, zero_add]
  · rw [hR, sub_at, mo_mul_at, if_neg (by omega)]
    rcases Nat.lt_or_ge (d + k) i with h1 | h1
    · rw [h.bd i (by omega), co_out (l := Q) (i := i - k) (by omega)]; simp
    · obtain rfl : i = k + d := by omega
      rw [hf, Nat.add_sub_cancel_left, Int.sub_self]
  · rw [co_set_at hk, if_neg (by omega)]; exact h.z i (by omega)
/-- What divides goes on dividing: the next rest is 0. -/
theorem DvI.no (h : DvI P Q m R d (k + 1)) (hQ : Q.length = d + 1) (h0 : (co Q) d ≠ 0) (hd : Dv (co Q) (co P)) : ∃ u, (co R) (k + d) = (co Q) d * u := by
  obtain ⟨s, hs, e⟩ := hd
  have e2 : co R = co Q * (s - co m) := by
    rw [mul_sub, ← e, h.eq, sub_eq, add_comm (co Q * co m), add_assoc, add_neg, add_zero]
  have hf : Fn (s - co m) := hs.sub (co_fn m)
  have dq : Dg (co Q) d := ⟨h0, (co_bd Q).le (by omega)⟩
  by_cases hz : s - co m = c 0
  · exact ⟨0, by rw [e2, hz, mul_zero]; cases (k + d) <;> simp [c_0, c_at]⟩
  · obtain ⟨n, hn⟩ := hf.dg hz
    have hd2 := dq.mul hn
    rw [← e2] at hd2
    have hle : n ≤ k := by
      rcases Nat.lt_or_ge k n with h1 | h1
      · exact absurd (h.bd (d + n) (by omega)) hd2.1
      · exact h1
    refine ⟨(s - co m) k, ?_⟩
    rw [e2, Nat.add_comm k d]
    exact (mul_bd (dq.2) (hn.2.le (by omega : n + 1 ≤ k + 1))).2
/-- The end of Divide: what is left is 0, or nothing divides. -/
theorem DvI.last (h : DvI P Q m R d 0) (hQ : Q.length = d + 1) (h0 : (co Q) d ≠ 0) : co R = c 0 ∧ co P = co Q * co m ∨ co R ≠ c 0 ∧ ¬ Dv (co Q) (co P) := by
  by_cases hz : co R = c 0
  · exact .inl ⟨hz, by rw [h.eq, hz, add_zero]⟩
  · refine .inr ⟨hz, fun hd => ?_⟩
    obtain ⟨s, hs, e⟩ := hd
    have dq : Dg (co Q) d := ⟨h0, (co_bd Q).le (by omega)⟩
    have := (div_uniq dq (co_fn m) hs h.bd (Bd.c0 d) (by rw [add_zero, ← e, h.eq])).2
    exact hz this
/-- The quotient's list is in normal form. -/
theorem quo_nm (hP : Nm P) (hQ : Q.length = d + 1) (hm : m.length = P.length - d) (e : co P = co Q * co m) : Nm m := by
  intro hh
  have hm0 : m ≠ [] := fun e => by rw [e] at hh; simp at hh
  have hl := List.length_pos_iff.2 hm0
  rw [List.getLast?_eq_getElem?, List.getElem?_eq_getElem (by omega)] at hh
  injection hh with hh
  have hb : Bd (co m) (m.length - 1) := fun i hi => by
    rcases Nat.lt_or_ge i m.length with h1 | h1
    · obtain rfl : i = m.length - 1 := by omega
      rw [co_at h1]; exact hh
    · exact co_out h1
  have hP0 : P ≠ [] := fun e => by rw [e, List.length_nil] at hm; omega
  have hd := nm_dg hP hP0
  rw [e] at hd
  by_cases h1 : m.length = 1
  · have : co m = c 0 := by rw [h1] at hb; exact hb.zero
    rw [this, mul_zero] at hd
    exact hd.1 (by cases (P.length - 1) <;> rfl)
  · have := (mul_bd (p := co Q) (m := d) ((co_bd Q).le (by omega)) (n := m.length - 2) (hb.le (by omega))).1
    exact hd.1 (this _ (by omega))
/-- Rest: the state when k places are left; c is the leading coefficient, i steps are done. -/
structure ReI (P Q R t : List Int) (d k i : Nat) (S u : Se) : Prop where
  eq : sm ((co Q) d ^ i) (co P) = co Q * u + S
  bd : Bd S (d + k)
  low : ∀ j, j < k → (co R) j = (co P) j
  lowS : ∀ j, j < k → S j = (co Q) d ^ i * (co P) j
  mid : ∀ j, k ≤ j → j < d + k → S j = (co R) j
  z : ∀ j, j < k → u j = 0
  v : ∀ j, k ≤ j → u j = (co t) j * (co Q) d ^ (j - k)
/-- The next rest. -/
def nxS (Q : List Int) (d k : Nat) (S : Se) : Se := sm ((co Q) d) S - mo k (S (k + d)) * co Q
theorem nxS_at (hQ : Q.length = d + 1) (S : Se) (j : Nat) : (nxS Q d k S) j = (co Q) d * S j - (if j < k then 0 else S (k + d) * (co Q) (j - k)) := by
  rw [nxS, sub_at, sm_at, mo_mul_at]
theorem ReI.step {u : Se} {t : List Int} (h : ReI P Q R t d (k + 1) i S u) (hQ : Q.length = d + 1) (hk : k < t.length) (hR : ∀ j, j < k + d → (co R2) j = if j < k then (co R) j else (co Q) d * S j - S (k + d) * (co Q) (j - k)) :
    ReI P Q R2 (t.set k (S (k + d))) d k (i + 1) (nxS Q d k S) (sm ((co Q) d) u + mo k (S (k + d))) := by
  refine ⟨?_, fun j hj => ?_, fun j hj => ?_, fun j hj => ?_, fun j h1 h2 => ?_, fun j hj => ?_, fun j hj => ?_⟩
  · rw [nxS, Int.pow_succ, Int.mul_comm, ← sm_sm, h.eq, sm_add, ← mul_sm, mul_add, mul_comm (mo k _), sub_eq, add_assoc, add_comm (sm _ S), ← add_assoc (co Q * mo k _), add_neg, zero_add]
  · rw [nxS_at hQ, if_neg (by omega)]
    rcases Nat.lt_or_ge (d + k) j with h1 | h1
    · rw [h.bd j (by omega), co_out (l := Q) (i := j - k) (by omega)]; simp
    · obtain rfl : j = k + d := by omega
      rw [Nat.add_sub_cancel_left, Int.mul_comm, Int.sub_self]
  · rw [hR j (by omega), if_pos hj]; exact h.low j (by omega)
  · rw [nxS_at hQ, if_pos hj, Int.sub_zero, h.lowS j (by omega), Int.pow_succ]; grind
  · rw [nxS_at hQ, if_neg (by omega), hR j (by omega), if_neg (by omega)]
  · rw [add_at, sm_at, mo_at, if_neg (by omega), h.z j (by omega)]; simp
  · rw [add_at, sm_at, mo_at, co_set_at hk]
    by_cases e : j = k
    · subst e
      rw [if_pos rfl, if_pos rfl, h.z j (by omega), Nat.sub_self]; simp
    · rw [if_neg e, if_neg e, h.v j (by omega), show j - k = j - (k + 1) + 1 by omega, Int.pow_succ]; grind
/-- The end of Rest. -/
theorem ReI.last {u : Se} {t : List Int} (h : ReI P Q R t d 0 T S u) : sm ((co Q) d ^ T) (co P) = co Q * pu (co t) (xc ((co Q) d)) + co (R.take d) ∧ Bd (co (R.take d)) d := by
  have e1 : u = pu (co t) (xc ((co Q) d)) := ext fun j => by
    rw [pu_xc_at _ _ (co_fn t), h.v j (Nat.zero_le _), Nat.sub_zero]
  have e2 : S = co (R.take d) := ext fun j => by
    rw [co_take_at]
    by_cases hj : j < d
    · rw [if_pos hj]; exact h.mid j (Nat.zero_le _) (by omega)
    · rw [if_neg hj]; exact h.bd j (by omega)
  rw [← e1, ← e2]
  exact ⟨h.eq, h.bd⟩
theorem ReI.first (P Q t : List Int) (d k : Nat) (hb : P.length ≤ d + k) (ht : co t = c 0) : ReI P Q P t d k 0 (co P) (c 0) := by
  refine ⟨by rw [Int.pow_zero, sm_one, mul_zero, zero_add], (co_bd P).le hb, fun _ _ => rfl, fun j _ => by rw [Int.pow_zero, Int.one_mul], fun _ _ _ => rfl, fun j _ => by cases j <;> rfl, fun j _ => ?_⟩
  rw [ht]; cases j <;> simp [c_0, c_at]
theorem DvI.first (P Q t : List Int) (d k : Nat) (hb : P.length ≤ d + k) (ht : co t = c 0) : DvI P Q t P d k :=
  ⟨by rw [ht, mul_zero, zero_add], (co_bd P).le hb, fun i _ => by rw [ht]; cases i <;> rfl⟩
end Se
end Go.Proofs.YtbpamkpclofnbaaGreat.MP
