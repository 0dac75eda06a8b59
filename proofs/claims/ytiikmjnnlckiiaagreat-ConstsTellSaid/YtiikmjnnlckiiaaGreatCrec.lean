/-
 consts: reciprocal.
-/
import Derived.Test.YtiikmjnnlckiiaaGreatQdef
import Derived.Test.YtiikmjnnlckiiaaGreatLclos
import Derived.Test.YtiikmjnnlckiiaaGreatLtimes
import Derived.Test.YtiikmjnnlckiiaaGreatLsum2
namespace Go.Proofs.YtiikmjnnlckiiaaGreat
open Go.RowKit
set_option linter.unusedVariables false

theorem dg_lone {N : Nat} (h0 : 0 < N) (h1 : N < Wd) : dg Wd N = [(N : Int)] := by rw [dg_pos Wd2 h0, Nat.mod_eq_of_lt h1, Nat.div_eq_of_lt h1, dg_zero]
theorem lone_zn {w : World} {A : Option Addr} {K : Int} (h1 : 1 ≤ K ∧ K ≤ 1000000) (h : Rd w w.heap.size A 1 1 [K]) : Zn w A 1 1 K 1 := by
 refine ⟨?_, Nat.le_refl _⟩
 rw [dg_lone (by omega) (by rw [Wd_eq]; omega), show (K.natAbs : Int) = K by omega]; exact h
theorem pt_at {X : Int} {W : Nat} : flI (cM X 0) (cE 0 + W) = X * twP W ∧ -flI (-cM X 0) (cE 0 + W) = X * twP W := by
 obtain ⟨e1, e2⟩ := c_yes (X := X) (e := 0) (by omega)
 rw [e1, e2]
 unfold flI twP
 rcases Nat.eq_zero_or_pos W with rfl | hW
 ·simp
 ·rw [if_neg (by omega), if_neg (by omega), show (0 + (W : Int)).toNat = W by omega]
  refine ⟨rfl, ?_⟩
  rw [Int.neg_mul]; omega
theorem min4 {f : Int → Int → Int} {a b c : Int} (h : f a b = c) : mn4 f a a b b = c := by unfold mn4; rw [h]; omega
theorem max4 {f : Int → Int → Int} {a b c : Int} (h : f a b = c) : mx4 f a a b b = c := by unfold mx4; rw [h]; omega
theorem rec_is {W m : Nat} (hm : 1 < m) (hc : Nat.Coprime m 2) : mn4 (fun x y => fdI (x * 2 ^ (W : Int).toNat) y) (1 * twP W) (1 * twP W) (m * twP W) (m * twP W) = ptN W m ∧ mx4 (fun x y => cdI (x * 2 ^ (W : Int).toNat) y) (1 * twP W) (1 * twP W) (m * twP W) (m * twP W) = ptN W m + 1 := by
 have p := tw_pos W
 have pm : 0 < (m : Int) * twP W := Int.mul_pos (by omega) p
 have e : 1 * twP W * 2 ^ (W : Int).toNat = twP W * twP W := by rw [Int.one_mul]; rfl
 have q : twP W * twP W / ((m : Int) * twP W) = ptN W m := by
  rw [Int.mul_ediv_mul_of_pos_left _ _ p]; unfold ptN; rw [Int.natCast_ediv, twN]
 have r : ¬ twP W * twP W % ((m : Int) * twP W) = 0 := by
  intro h
  obtain ⟨k, hk⟩ := Int.dvd_of_emod_eq_zero h
  have h2 : twP W = m * k := by
   have : twP W * twP W = twP W * (m * k) := by rw [hk]; grind
   exact Int.eq_of_mul_eq_mul_left (by omega) this
  have h3 : (m : Int) ∣ ((2 ^ W : Nat) : Int) := ⟨k, by rw [twN]; exact h2⟩
  have h4 := Int.natCast_dvd_natCast.1 h3
  have := Nat.Coprime.eq_one_of_dvd (Nat.Coprime.pow_right W hc) h4
  omega
 exact ⟨min4 (by show fdI _ _ = _; rw [e, (fd_pos pm).1, q]), max4 (by show cdI _ _ = _; rw [e, (fd_pos pm).2, if_neg r, q])⟩
/-- A new box of a ball in normal form, in a world that is otherwise as it was. -/
def LnNew (v : World) (X Y q : Int) (k k2 : Nat) (s : Value) (wx : World) : Prop :=
 ∃ g A n c A2 n2 c2, s = .pointer (some ⟨g, 0, none⟩) ∧ Lx wx g (ngB X) A n c (ngB Y) A2 n2 c2 q ∧ Zn wx A n c X k ∧ Zn wx A2 n2 c2 Y k2 ∧ v.heap.size ≤ g ∧ Below v.heap.size v wx
theorem LnNew.put {v wx : World} {X Y q : Int} {k k2 g n c n2 c2 m1 d1 m2 d2 : Nat} {p1 p2 : Bool} {A A2 B1 B2 : Option Addr} {e0 : Int} (hv : Below v.heap.size v wx) (x : Lx wx g p1 B1 m1 d1 p2 B2 m2 d2 e0) (hg : v.heap.size ≤ g) (z : Zn wx A n c X k) (z2 : Zn wx A2 n2 c2 Y k2) :
  LnNew v X Y q k k2 (.pointer (some ⟨g, 0, none⟩)) (((((wx.setCell ⟨g, 0, none⟩ (.bool (ngB X))).setCell ⟨g, 1, none⟩ (.slice A n c)).setCell ⟨g, 2, none⟩ (.bool (ngB Y))).setCell ⟨g, 3, none⟩ (.slice A2 n2 c2)).setCell ⟨g, 4, none⟩ (.int .i64 q)) :=
 ⟨g, _, _, _, _, _, _, rfl, x.put _ _ _ _ _ _ _ _ _, z.putL x, z2.putL x, hg, put_belowL hv hg _ _ _ _ _⟩
theorem LnNew.new {v wx : World} {X Y q : Int} {k k2 n c n2 c2 : Nat} {A A2 : Option Addr} (hv : Below v.heap.size v wx) (z : Zn wx A n c X k) (z2 : Zn wx A2 n2 c2 Y k2) :
  LnNew v X Y q k k2 (.pointer (some ⟨wx.heap.size, 0, none⟩)) (wx.alloc (.cells #[.bool (ngB X), .slice A n c, .bool (ngB Y), .slice A2 n2 c2, .int .i64 q] 27)) :=
 ⟨wx.heap.size, _, _, _, _, _, _, rfl, Lx.new _ _ _ _ _ _ _ _ _ _, z.keep (below_alloc _ _), z2.keep (below_alloc _ _), hv.size, bthen hv (below_alloc _ _)⟩
set_option maxRecDepth 100000 in
set_option maxHeartbeats 4000000 in
theorem whole_any (K : Int) (w : World) (h1 : 1 ≤ K ∧ K ≤ 1000000) :
  Calls Tryz.prog 63 #[.int .u64 K] w (OutZ w K 1) := by
 have hm : Lm K := lm_small (by omega) (by omega)
 have HNG := Lib.hid (show ngB K = false by unfold ngB; exact decide_eq_false (by omega))
 go_enter Tryz.func63, Tryz.ntmps63
 go_wp2
 have u1 := lay1s (w.alloc (.cells #[.bool false, .slice (some ⟨w.heap.size + 1, 0, none⟩) 1 1] 25)) K hm (g := w.heap.size + 1) (by simp)
 have hb := below_alloc2 w (.cells #[.bool false, .slice (some ⟨w.heap.size + 1, 0, none⟩) 1 1] 25) (.cells #[.int .u64 K] 54)
 refine bodyPost_ret (v := .agg #[.bool false, .slice (some ⟨w.heap.size + 1, 0, none⟩) 1 1]) (by simp [results, Tryz.results63, go_sem]) rfl ?_
 exact ⟨_, _, _, by rw [HNG.out], lone_zn h1 u1, hb⟩
set_option maxRecDepth 100000 in
set_option maxHeartbeats 8000000 in
theorem Ctimes_any {b b2 : Bool} {A A2 : Option Addr} {n c n2 c2 : Nat} {X Y q : Int} {w : World} (h : Zr w b A n c X 20) (h2 : Zr w b2 A2 n2 c2 Y 20) (K : Int) (hK : 1 ≤ K ∧ K ≤ 1000000) (hv : 0 ≤ q ∧ q ≤ 2048 ∧ X ≤ Y) :
  Calls Tryz.prog 28 #[.agg #[.bool b, .slice A n c, .bool b2, .slice A2 n2 c2, .int .i64 q], .int .u64 K] w (OuB w (X * K) (Y * K) q 60) := by
 obtain ⟨t1, t2⟩ := tm_pos (K := K) hv.2.2 (by omega)
 obtain ⟨X2, hX2⟩ : ∃ e, X * K = e := ⟨_, rfl⟩
 obtain ⟨Y2, hY2⟩ : ∃ e, Y * K = e := ⟨_, rfl⟩
 rw [hX2, hY2]
 have HTm := Lib.hid (t1.trans hX2); have HTx := Lib.hid (t2.trans hY2); have HV := Lib.hid hv; have HX2 := Lib.hid hX2; have HY2 := Lib.hid hY2; clear t1 t2 hv hX2 hY2
 go_enter Tryz.func28, Tryz.ntmps28
 go_upto_region 1 with fail
 have x_a : Lx (w.alloc (.cells #[.bool b, .slice A n c, .bool b2, .slice A2 n2 c2, .int .i64 q] 27)) (w.heap.size) b A n c b2 A2 n2 c2 q := by have := Lx.new w b A n c b2 A2 n2 c2 q; simpa using this
 replace x_a := x_a.alloc (.cells #[.bool false, .slice none 0 0, .bool false, .slice none 0 0, .int .i64 0] 27)
 have x_r : Lx ((w.alloc (.cells #[.bool b, .slice A n c, .bool b2, .slice A2 n2 c2, .int .i64 q] 27)).alloc (.cells #[.bool false, .slice none 0 0, .bool false, .slice none 0 0, .int .i64 0] 27)) (w.heap.size + 1) false none 0 0 false none 0 0 0 := by have := Lx.new (w.alloc (.cells #[.bool b, .slice A n c, .bool b2, .slice A2 n2 c2, .int .i64 q] 27)) false none 0 0 false none 0 0 0; simpa using this
 have hb : Below w.heap.size w ((w.alloc (.cells #[.bool b, .slice A n c, .bool b2, .slice A2 n2 c2, .int .i64 q] 27)).alloc (.cells #[.bool false, .slice none 0 0, .bool false, .slice none 0 0, .int .i64 0] 27)) := (Below.alloc (Below.alloc (Below.refl w.heap.size w) (by simp) (.cells #[.bool b, .slice A n c, .bool b2, .slice A2 n2 c2, .int .i64 q] 27)) (by simp) (.cells #[.bool false, .slice none 0 0, .bool false, .slice none 0 0, .int .i64 0] 27))
 generalize (w.alloc (.cells #[.bool b, .slice A n c, .bool b2, .slice A2 n2 c2, .int .i64 q] 27)).alloc (.cells #[.bool false, .slice none 0 0, .bool false, .slice none 0 0, .int .i64 0] 27) = v1 at *
 obtain ⟨h, h2⟩ := mv2 hb h h2
 have q_a := x_a.al
 have q_r := x_r.al
 clear q_r
 have hv := Below.refl v1.heap.size v1
 have l_a_p := x_a.lt
 have l_r_p := x_r.lt
 go_cut [5] (fun s9 wx => LnNew v1 X2 Y2 q 60 60 s9 wx)
 case first =>
  go_region_held3 (fun w' => w'.cell? ⟨w.heap.size, 0, none⟩ = some (.bool b) ∧ w'.cell? ⟨w.heap.size, 1, none⟩ = some (.slice A n c) ∧ w'.cell? ⟨w.heap.size, 2, none⟩ = some (.bool b2) ∧ w'.cell? ⟨w.heap.size, 3, none⟩ = some (.slice A2 n2 c2) ∧ w'.cell? ⟨w.heap.size, 4, none⟩ = some (.int .i64 q))
   (first | (with_reducible exact ⟨x_a.c0, x_a.c1, x_a.c2, x_a.c3, x_a.c4⟩) | (with_reducible exact ⟨(x_a.alloc _).c0, (x_a.alloc _).c1, (x_a.alloc _).c2, (x_a.alloc _).c3, (x_a.alloc _).c4⟩) | (with_reducible exact ⟨(x_a.asideL (by omega)).c0, (x_a.asideL (by omega)).c1, (x_a.asideL (by omega)).c2, (x_a.asideL (by omega)).c3, (x_a.asideL (by omega)).c4⟩) | (with_reducible exact ⟨((x_a.alloc _).asideL (by omega)).c0, ((x_a.alloc _).asideL (by omega)).c1, ((x_a.alloc _).asideL (by omega)).c2, ((x_a.alloc _).asideL (by omega)).c3, ((x_a.alloc _).asideL (by omega)).c4⟩) | go_keep)
   (first | (go_at_call 63; (with_reducible refine (whole_any K _ hK).mono ?_); rintro e v2 ⟨A9, n9, c9, rfl, z9, hb1⟩; replace hb1 := undrew hb1; (try replace x_p := x_p.keep hb1); replace hv := bthen hv hb1; have hvs_v2 := hv.size; obtain ⟨x_a, x_r, h, h2⟩ := mv4 hb1 x_a x_r h h2; replace hb := bthen hb hb1; clear hb1; replace q_a := x_a.al; (try (have q_p := x_p.al))) | (go_at_call 63; (with_reducible refine (whole_any K _ hK).mono ?_); rintro e v2 ⟨A9, n9, c9, rfl, z9, hb1⟩; replace hb1 := undrew hb1; have x_p := (Lx.new v1 false none 0 0 false none 0 0 0).keep hb1; replace hb1 := bthen (below_alloc v1 (.cells #[.bool false, .slice none 0 0, .bool false, .slice none 0 0, .int .i64 0] 27)) hb1; replace hv := bthen hv hb1; have hvs_v2 := hv.size; obtain ⟨x_a, x_r, h, h2⟩ := mv4 hb1 x_a x_r h h2; replace hb := bthen hb hb1; clear hb1; replace q_a := x_a.al; (try (have q_p := x_p.al))) | (go_at_call 62; (with_reducible refine (Times_yes h h2 z9.zr HV.out (by omega) (by omega) (by omega)).mono ?_); rintro e v3 ⟨A15, n15, c15, A16, n16, c16, rfl, z15, z16, hb1⟩; (try replace x_p := x_p.keep hb1); replace hv := bthen hv hb1; have hvs_v3 := hv.size; obtain ⟨x_a, x_r, h, h2, z9⟩ := mv5 hb1 x_a x_r h h2 z9; replace hb := bthen hb hb1; clear hb1; replace q_a := x_a.al; rw [HTm.out] at z15 ⊢; rw [HTx.out] at z16 ⊢; (try (have q_p := x_p.al))) | (go_at_call 62; (with_reducible refine (Times_yes (h.keep (below_alloc v2 (.cells #[.bool false, .slice none 0 0, .bool false, .slice none 0 0, .int .i64 0] 27))) (h2.keep (below_alloc v2 (.cells #[.bool false, .slice none 0 0, .bool false, .slice none 0 0, .int .i64 0] 27))) (z9.keep (below_alloc v2 (.cells #[.bool false, .slice none 0 0, .bool false, .slice none 0 0, .int .i64 0] 27))).zr HV.out (by omega) (by omega) (by omega)).mono ?_); rintro e v3 ⟨A15, n15, c15, A16, n16, c16, rfl, z15, z16, hb1⟩; have x_p := (Lx.new v2 false none 0 0 false none 0 0 0).keep hb1; replace hb1 := bthen (below_alloc v2 (.cells #[.bool false, .slice none 0 0, .bool false, .slice none 0 0, .int .i64 0] 27)) hb1; replace hv := bthen hv hb1; have hvs_v3 := hv.size; obtain ⟨x_a, x_r, h, h2, z9⟩ := mv5 hb1 x_a x_r h h2 z9; replace hb := bthen hb hb1; clear hb1; replace q_a := x_a.al; rw [HTm.out] at z15 ⊢; rw [HTx.out] at z16 ⊢; (try (have q_p := x_p.al))))
  all_goals go_wp2_with fail
  all_goals go_meet
  all_goals first | (with_reducible exact LnNew.new hv z15 z16) | (with_reducible exact LnNew.put hv x_p (by omega) z15 z16)
 obtain ⟨g4, Ax5, nx5, cx5, Ay5, ny5, cy5, rfl, x_p, z1_p, z2_p, e_p, hb1⟩ := hcut
 clear hv
 obtain ⟨x_a, x_r, h, h2⟩ := mv4 hb1 x_a x_r h h2
 replace hb := bthen hb hb1
 clear hb1
 replace q_a := x_a.al
 clear q_a
 generalize wc = v6 at *
 have q_a := x_a.al
 have q_p := x_p.al
 have q_r := x_r.al
 go_wp2
 replace x_a := x_a.asideL (b' := (ngB X2)) (A' := Ax5) (n' := nx5) (c' := cx5) (p' := (ngB Y2)) (B' := Ay5) (m' := ny5) (d' := cy5) (e' := q) (g := w.heap.size + 1) (by omega)
 replace x_p := x_p.asideL (b' := (ngB X2)) (A' := Ax5) (n' := nx5) (c' := cx5) (p' := (ngB Y2)) (B' := Ay5) (m' := ny5) (d' := cy5) (e' := q) (g := w.heap.size + 1) (by omega)
 replace h := h.putL (b' := (ngB X2)) (A' := Ax5) (n' := nx5) (c' := cx5) (p' := (ngB Y2)) (B' := Ay5) (m' := ny5) (d' := cy5) (e' := q) x_r
 replace h2 := h2.putL (b' := (ngB X2)) (A' := Ax5) (n' := nx5) (c' := cx5) (p' := (ngB Y2)) (B' := Ay5) (m' := ny5) (d' := cy5) (e' := q) x_r
 replace z1_p := z1_p.putL (b' := (ngB X2)) (A' := Ax5) (n' := nx5) (c' := cx5) (p' := (ngB Y2)) (B' := Ay5) (m' := ny5) (d' := cy5) (e' := q) x_r
 replace z2_p := z2_p.putL (b' := (ngB X2)) (A' := Ax5) (n' := nx5) (c' := cx5) (p' := (ngB Y2)) (B' := Ay5) (m' := ny5) (d' := cy5) (e' := q) x_r
 replace hb := put_belowL (g := w.heap.size + 1) hb (by omega) (.bool (ngB X2)) (.slice Ax5 nx5 cx5) (.bool (ngB Y2)) (.slice Ay5 ny5 cy5) (.int .i64 q)
 replace x_r := x_r.put (ngB X2) Ax5 nx5 cx5 (ngB Y2) Ay5 ny5 cy5 q
 clear q_a q_r q_p
 generalize ((((v6.setCell ⟨w.heap.size + 1, 0, none⟩ (.bool (ngB X2))).setCell ⟨w.heap.size + 1, 1, none⟩ (.slice Ax5 nx5 cx5)).setCell ⟨w.heap.size + 1, 2, none⟩ (.bool (ngB Y2))).setCell ⟨w.heap.size + 1, 3, none⟩ (.slice Ay5 ny5 cy5)).setCell ⟨w.heap.size + 1, 4, none⟩ (.int .i64 q) = v7 at *
 have q_a := x_a.al
 have q_r := x_r.al
 have q_p := x_p.al
 skip
 refine bodyPost_ret (v := .agg #[.bool (ngB X2), .slice Ax5 nx5 cx5, .bool (ngB Y2), .slice Ay5 ny5 cy5, .int .i64 q]) (by simp [results, Tryz.results28, go_sem, q_r]) rfl ?_
 exact ⟨_, _, _, _, _, _, rfl, z1_p, z2_p, hb⟩

end Go.Proofs.YtiikmjnnlckiiaaGreat
namespace Go.Proofs.YtiikmjnnlckiiaaGreat
open Go.RowKit
set_option linter.unusedVariables false

set_option maxRecDepth 100000 in
set_option maxHeartbeats 8000000 in
theorem reciprocal_any (W m : Nat) (K : Int) (hK : K = (m : Int)) (w : World) (hW : 16 ≤ W ∧ W ≤ 1000) (hm : 3 ≤ m ∧ m ≤ 300) (hc : Nat.Coprime m 2) :
  Calls Tryz.prog 64 #[.int .u64 K, .int .i64 (W : Nat)] w (OuB w (ptN W m) (ptN W m + 1) W 19) := by
 have hp := tw_pos W
 have hbd := pt_bd (m := m) hW hm.1
 obtain ⟨r1, r2⟩ := rec_is (W := W) (m := m) (by omega) hc
 rw [← hK] at r1 r2
 have a1 := pt_at (X := 1) (W := W)
 have a2 := pt_at (X := K) (W := W)
 obtain ⟨D, hD⟩ : ∃ e, ptN W m = e := ⟨_, rfl⟩
 rw [hD] at r1 r2 hbd ⊢
 have BD : Hid (Si D 18 ∧ Si (D + 1) 18) := Lib.hid ⟨si_twL (K := 2) (Q := W) (by omega) (by omega) (by omega) (by omega), si_twL (K := 2) (Q := W) (by omega) (by omega) (by omega) (by omega)⟩
 have hKp : 0 ≤ K * twP W := Int.mul_nonneg (by omega) (Int.le_of_lt hp)
 have hKq : K * twP W ≤ (300 : Nat) * twP W := Int.mul_le_mul_of_nonneg_right (by omega) (Int.le_of_lt hp)
 have BP : Hid (Si (1 * twP W) 20 ∧ Si (K * twP W) 20) := Lib.hid ⟨si_tw (K := 1) (Q := W) (by omega) (by omega) (by omega) (by omega), si_tw (K := 300) (Q := W) (by omega) (by omega) hKq (by omega)⟩
 have hPK : 0 < K * twP W := Int.mul_pos (by omega) hp
 obtain ⟨P1, hP1⟩ : ∃ e, 1 * twP W = e := ⟨_, rfl⟩
 obtain ⟨P2, hP2⟩ : ∃ e, K * twP W = e := ⟨_, rfl⟩
 rw [hP1] at r1 r2 a1 BP; rw [hP2] at r1 r2 a2 BP hPK
 have HK : 3 ≤ K ∧ K ≤ 300 := by omega
 clear hK hm hc
 have R1 := Lib.hid r1; have R2 := Lib.hid r2; have H1 := Lib.hid a1; have H2 := Lib.hid a2; have HP := Lib.hid hPK; clear hp hbd r1 r2 a1 a2 hD hKp hKq hP1 hP2 hPK
 go_enter Tryz.func64, Tryz.ntmps64
 go_wp2_with fail
 have x_r : Lx (w.alloc (.cells #[.bool false, .slice none 0 0, .bool false, .slice none 0 0, .int .i64 0] 27)) (w.heap.size) false none 0 0 false none 0 0 0 := by have := Lx.new w false none 0 0 false none 0 0 0; simpa using this
 have hb : Below w.heap.size w (w.alloc (.cells #[.bool false, .slice none 0 0, .bool false, .slice none 0 0, .int .i64 0] 27)) := (Below.alloc (Below.refl w.heap.size w) (by simp) (.cells #[.bool false, .slice none 0 0, .bool false, .slice none 0 0, .int .i64 0] 27))
 generalize w.alloc (.cells #[.bool false, .slice none 0 0, .bool false, .slice none 0 0, .int .i64 0] 27) = v1 at *
 have q_r := x_r.al
 clear q_r
 go_wp2_with fail
 with_reducible refine (whole_any 1 _ ⟨by omega, by omega⟩).mono ?_
 rintro e v2 ⟨A13, n13, c13, rfl, z13, hb1⟩
 replace x_r := x_r.keep hb1
 replace hb := bthen hb hb1
 clear hb1
 go_wp2_with fail
 with_reducible refine (Point_yes z13.zr (W : Nat) (by omega) 129 (by omega) (by omega)).mono ?_
 rintro e v3 ⟨A3, n3, c3, A4, n4, c4, rfl, z3, z4, hb1⟩
 obtain ⟨x_r, z13⟩ := mv2 hb1 x_r z13
 replace hb := bthen hb hb1
 clear hb1
 rw [H1.out.1] at z3 ⊢; rw [H1.out.2] at z4 ⊢
 replace z3 := z3.slim BP.out.1; replace z4 := z4.slim BP.out.1
 clear z13
 go_wp2_with fail
 have hb1 := below_alloc v3 (.cells #[.bool (ngB P1), .slice A3 n3 c3, .bool (ngB P1), .slice A4 n4 c4, .int .i64 (W : Int)] 27)
 have l_r_a := x_r.lt
 have x_a := Lx.new v3 (ngB P1) A3 n3 c3 (ngB P1) A4 n4 c4 (W : Int)
 have e_a : w.heap.size ≤ v3.heap.size := hb.size
 obtain ⟨x_r, z3, z4⟩ := mv3 hb1 x_r z3 z4
 replace hb := bthen hb hb1
 clear hb1
 generalize v3.alloc (.cells #[.bool (ngB P1), .slice A3 n3 c3, .bool (ngB P1), .slice A4 n4 c4, .int .i64 (W : Int)] 27) = v4 at *
 have q_a := x_a.al
 go_wp2_with fail
 with_reducible refine (whole_any K _ ⟨by omega, by omega⟩).mono ?_
 rintro e v5 ⟨A15, n15, c15, rfl, z15, hb1⟩
 obtain ⟨x_r, x_a, z3, z4⟩ := mv4 hb1 x_r x_a z3 z4
 replace hb := bthen hb hb1
 clear hb1
 replace q_a := x_a.al
 go_wp2_with fail
 with_reducible refine (Point_yes z15.zr (W : Nat) (by omega) 129 (by omega) (by omega)).mono ?_
 rintro e v6 ⟨A5, n5, c5, A6, n6, c6, rfl, z5, z6, hb1⟩
 obtain ⟨x_r, x_a, z3, z4, z15⟩ := mv5 hb1 x_r x_a z3 z4 z15
 replace hb := bthen hb hb1
 clear hb1
 replace q_a := x_a.al
 rw [H2.out.1] at z5 ⊢; rw [H2.out.2] at z6 ⊢
 replace z5 := z5.slim BP.out.2; replace z6 := z6.slim BP.out.2
 clear z15
 have y_a := ((x_a.alloc (.cells #[.bool (ngB P2), .slice A5 n5 c5, .bool (ngB P2), .slice A6 n6 c6, .int .i64 (W : Int)] 27))).al
 go_wp2_with fail
 clear y_a
 have hb1 := below_alloc v6 (.cells #[.bool (ngB P2), .slice A5 n5 c5, .bool (ngB P2), .slice A6 n6 c6, .int .i64 (W : Int)] 27)
 have l_r_d := x_r.lt
 have l_a_d := x_a.lt
 have x_d := Lx.new v6 (ngB P2) A5 n5 c5 (ngB P2) A6 n6 c6 (W : Int)
 have e_d : w.heap.size ≤ v6.heap.size := hb.size
 clear q_a
 obtain ⟨x_r, x_a, z3, z4, z5, z6⟩ := mv6 hb1 x_r x_a z3 z4 z5 z6
 replace hb := bthen hb hb1
 clear hb1
 generalize v6.alloc (.cells #[.bool (ngB P2), .slice A5 n5 c5, .bool (ngB P2), .slice A6 n6 c6, .int .i64 (W : Int)] 27) = v7 at *
 have q_a := x_a.al
 have q_d := x_d.al
 skip
 with_reducible refine (LDiv_any z3.zr z4.zr z5.zr z6.zr ⟨by omega, by omega, Int.le_refl _⟩ (Int.le_refl _) ⟨by have := HP.out; omega, by have := HP.out; omega, by have := HP.out; omega⟩ 20 (by omega) (by omega) (by omega) (by omega) 150 (by omega) (by omega)).mono ?_
 rintro e v8 ⟨A7, n7, c7, A8, n8, c8, rfl, z7, z8, hb1⟩
 obtain ⟨x_r, x_a, x_d, z3, z4, z5, z6⟩ := mv7 hb1 x_r x_a x_d z3 z4 z5 z6
 replace hb := bthen hb hb1
 clear hb1
 replace q_a := x_a.al
 replace q_d := x_d.al
 rw [R1.out] at z7 ⊢; rw [R2.out] at z8 ⊢
 replace z7 := z7.slim BD.out.1; replace z8 := z8.slim BD.out.2
 clear q_a
 clear q_d
 clear z3 z4 z5 z6
 go_upto_region 4 with fail
 have hb1 := below_alloc v8 (.cells #[.bool (ngB D), .slice A7 n7 c7, .bool (ngB (D + 1)), .slice A8 n8 c8, .int .i64 (W : Int)] 27)
 have l_r_p := x_r.lt
 have l_a_p := x_a.lt
 have l_d_p := x_d.lt
 have x_p := Lx.new v8 (ngB D) A7 n7 c7 (ngB (D + 1)) A8 n8 c8 (W : Int)
 have e_p : w.heap.size ≤ v8.heap.size := hb.size
 obtain ⟨x_r, x_a, x_d, z7, z8⟩ := mv5 hb1 x_r x_a x_d z7 z8
 replace hb := bthen hb hb1
 clear hb1
 generalize v8.alloc (.cells #[.bool (ngB D), .slice A7 n7 c7, .bool (ngB (D + 1)), .slice A8 n8 c8, .int .i64 (W : Int)] 27) = v9 at *
 have q_p := x_p.al
 have q_r := x_r.al
 go_wp2
 replace x_a := x_a.asideL (b' := (ngB D)) (A' := A7) (n' := n7) (c' := c7) (p' := (ngB (D + 1))) (B' := A8) (m' := n8) (d' := c8) (e' := (W : Int)) (g := w.heap.size) (by omega)
 replace x_d := x_d.asideL (b' := (ngB D)) (A' := A7) (n' := n7) (c' := c7) (p' := (ngB (D + 1))) (B' := A8) (m' := n8) (d' := c8) (e' := (W : Int)) (g := w.heap.size) (by omega)
 replace x_p := x_p.asideL (b' := (ngB D)) (A' := A7) (n' := n7) (c' := c7) (p' := (ngB (D + 1))) (B' := A8) (m' := n8) (d' := c8) (e' := (W : Int)) (g := w.heap.size) (by omega)
 replace z7 := z7.putL (b' := (ngB D)) (A' := A7) (n' := n7) (c' := c7) (p' := (ngB (D + 1))) (B' := A8) (m' := n8) (d' := c8) (e' := (W : Int)) x_r
 replace z8 := z8.putL (b' := (ngB D)) (A' := A7) (n' := n7) (c' := c7) (p' := (ngB (D + 1))) (B' := A8) (m' := n8) (d' := c8) (e' := (W : Int)) x_r
 replace hb := put_belowL (g := w.heap.size) hb (by omega) (.bool (ngB D)) (.slice A7 n7 c7) (.bool (ngB (D + 1))) (.slice A8 n8 c8) (.int .i64 (W : Int))
 replace x_r := x_r.put (ngB D) A7 n7 c7 (ngB (D + 1)) A8 n8 c8 (W : Int)
 clear q_r q_p
 generalize ((((v9.setCell ⟨w.heap.size, 0, none⟩ (.bool (ngB D))).setCell ⟨w.heap.size, 1, none⟩ (.slice A7 n7 c7)).setCell ⟨w.heap.size, 2, none⟩ (.bool (ngB (D + 1)))).setCell ⟨w.heap.size, 3, none⟩ (.slice A8 n8 c8)).setCell ⟨w.heap.size, 4, none⟩ (.int .i64 (W : Int)) = v10 at *
 have q_r := x_r.al
 have q_p := x_p.al
 skip
 refine bodyPost_ret (v := .agg #[.bool (ngB D), .slice A7 n7 c7, .bool (ngB (D + 1)), .slice A8 n8 c8, .int .i64 (W : Int)]) (by simp [results, Tryz.results64, go_sem, q_r]) rfl ?_
 exact ⟨_, _, _, _, _, _, rfl, z7.wide (by omega), z8.wide (by omega), hb⟩

end Go.Proofs.YtiikmjnnlckiiaaGreat
