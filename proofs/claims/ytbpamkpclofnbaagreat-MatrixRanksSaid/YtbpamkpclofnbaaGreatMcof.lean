/-
  matrix: coefficient, bothOdd, power, rescale.
-/
import Derived.Test.YtbpamkpclofnbaaGreatMbuild
import Derived.Test.YtbpamkpclofnbaaGreatMclo
import Derived.Test.YtbpamkpclofnbaaGreatMcat
import Derived.Test.YtbpamkpclofnbaaGreatMadj
import Derived.Test.YtbpamkpclofnbaaGreatMmul2
import Derived.Test.YtbpamkpclofnbaaGreatVpush
namespace Go.Proofs.YtbpamkpclofnbaaGreat
open Go.RowKit
open MP.Se (nf co)
set_option linter.unusedVariables false
set_option maxRecDepth 100000

/-- An integer is handed back, as it is read. -/
def OutR (w : World) (X : Int) (K : Nat) (e : Ending) (w' : World) : Prop := ∃ b A n c, e = .returned (.agg #[.bool b, .slice A n c]) ∧ Zr w' b A n c X K ∧ Below w.heap.size w w'
/-- A function value that hands back the number f i k, in all worlds above w. -/
structure Bcr (w : World) (fid : Nat) (caps : Array Value) (f : Nat → Nat → Int) (n m K : Nat) : Prop where
  ent : ∀ (args : Array Value) (w : World), (callFunc fid args).run Tryz.prog w = .ok (.enter fid args) w
  step : ∀ (w' : World) (i k : Nat), i < n → k < m → Below w.heap.size w w' → Calls Tryz.prog fid (#[.int .i64 (i : Int), .int .i64 (k : Int)] ++ caps) w' (OutR w' (f i k) K)
/-- Rows that are there: the first i cells. -/
def Rwr (wr : World) (g : Nat) (cs : List Value) (f : Nat → Nat → Int) (m K i : Nat) : Prop :=
  ∀ k, k < i → ∃ gk, cs[k]? = some (.slice (some ⟨gk, 0, none⟩) m m) ∧ g < gk ∧ gk < wr.heap.size ∧ Pz wr gk ((List.range m).map (f k)) K
/-- What the outer loop of build keeps. -/
def BuOr (w : World) (f : Nat → Nat → Int) (n m K g i : Nat) (wr : World) : Prop :=
  ∃ cs, Bm wr g cs ∧ cs.length = n ∧ Rwr wr g cs f m K i ∧ Below w.heap.size w wr
/-- What the inner loop of build keeps. -/
def BuIr (w : World) (f : Nat → Nat → Int) (n m K g gi i k : Nat) (wr : World) : Prop :=
  ∃ cs L, Bm wr g cs ∧ cs.length = n ∧ Rwr wr g cs f m K i ∧ (∀ j, j < i → cs[j]? ≠ some (.slice (some ⟨gi, 0, none⟩) m m)) ∧ cs[i]? = some (.slice (some ⟨gi, 0, none⟩) m m) ∧ g < gi ∧ Pz wr gi L K ∧ L.length = m ∧ L.take k = ((List.range m).map (f i)).take k ∧ Below w.heap.size w wr
theorem Rwr.keep {w v : World} {g : Nat} {cs : List Value} {f : Nat → Nat → Int} {m K i : Nat} (h : Rwr w g cs f m K i) (hb : Below w.heap.size w v) : Rwr v g cs f m K i := fun k hk => by
  obtain ⟨gk, h1, h2, h3, h4⟩ := h k hk
  exact ⟨gk, h1, h2, Nat.lt_of_lt_of_le h3 hb.size, h4.keep hb⟩
theorem Rwr.sto {w v : World} {g gi : Nat} {cs : List Value} {f : Nat → Nat → Int} {m K i : Nat} (h : Rwr w g cs f m K i) (hne : ∀ j, j < i → cs[j]? ≠ some (.slice (some ⟨gi, 0, none⟩) m m)) (s : Sto w gi v) : Rwr v g cs f m K i := fun k hk => by
  obtain ⟨gk, h1, h2, h3, h4⟩ := h k hk
  exact ⟨gk, h1, h2, by rw [s.size]; exact h3, h4.sto (fun e => hne k hk (by rw [h1, e])) s⟩
theorem Rwr.set {w v : World} {g m K i : Nat} {cs : List Value} {f : Nat → Nat → Int} {A : Option Addr} {n c : Nat} (h : Rwr w g cs f m K i) (s : Sto w g v) : Rwr v g (cs.set i (.slice A n c)) f m K i := fun k hk => by
  obtain ⟨gk, h1, h2, h3, h4⟩ := h k hk
  exact ⟨gk, by rw [List.getElem?_set_ne (by omega)]; exact h1, h2, by rw [s.size]; exact h3, h4.sto (by omega) s⟩
set_option maxHeartbeats 1000000 in
theorem Mbuildr_any {w : World} {fid n m K : Nat} {caps : Array Value} {f : Nat → Nat → Int} (C : Bcr w fid caps f n m K) (hn : n ≤ 1000) (hm : m ≤ 1000) (hK : K ≤ 1000000) :
    Calls Tryz.prog 81 #[.int .i64 (n : Int), .int .i64 (m : Int), .func (.func fid) #[] caps] w fun e w' => ∃ A c, e = .returned (.slice A n c) ∧ Me w' w'.heap.size A n c (mo2 f n m) K ∧ Below w.heap.size w w' := by
  have HE := C.ent
  have HC := Lib.hid C.step
  clear C
  go_enter Tryz.func81, Tryz.ntmps81
  go_wp2_with (at_make; refine wp_makeM rfl _ _ rfl n _ _ rfl rfl rfl rfl (by omega) ?_; intro v1 b_g hb)
  have hr0 : BuOr w f n m K w.heap.size 0 v1 := ⟨_, b_g, by simp, fun k hk => absurd hk (by omega), hb⟩
  clear b_g hb
  go_wp2_with fail
  go_loopw [14] (fun kv wr => ∃ i : Nat, i ≤ n ∧ kv = .int .i64 (i : Int) ∧ BuOr w f n m K w.heap.size i wr) (fun kv _ => n - (intOf kv).toNat)
  case atStart => exact ⟨0, by omega, rfl, hr0⟩
  case round =>
    clear hr0
    obtain ⟨i, hi, rfl, cs, b_g, hcs, hrw, hb⟩ := hrel
    rcases (show n = i ∨ i < n by omega) with hin | hin
    · subst hin
      have hmn : Me wr wr.heap.size (some ⟨w.heap.size, 0, none⟩) n n (mo2 f n m) K := ⟨Nat.le_refl _, mo2_len _ _ _, Nat.le_refl _, by omega, fun _ => ⟨_, 0, rfl, b_g.lt, fun k hk => by
        obtain ⟨gk, h1, h2, h3, h4⟩ := hrw k (by rw [mo2_len] at hk; exact hk)
        rw [mo2_row, Nat.zero_add]
        have hp := h4.rd (B := wr.heap.size) (o := 0) (m := m) (c := m) h3 (by simp) (Nat.le_refl _)
        rw [List.drop_zero, List.take_of_length_le (by simp), Nat.zero_mul] at hp
        exact ⟨_, m, m, (b_g.at_ h1).al, hp⟩⟩⟩
      clear b_g hrw hcs
      go_wp2
      go_ret
      exact ⟨_, _, rfl, hmn, hb⟩
    · obtain ⟨u0, hu0⟩ : ∃ u, cs[i]? = some u := ⟨_, List.getElem?_eq_getElem (by omega)⟩
      have HCS := Lib.hid hcs; have HRW := Lib.hid hrw; have HU0 := Lib.hid hu0
      have hgl := b_g.lt
      clear hcs hrw hu0
      go_upto_region 6 with (at_make; refine wp_makeR rfl _ _ rfl m K _ _ rfl rfl rfl rfl (by omega) ?_; intro v2 p_r hb2; have b_g2 := b_g.keep hb2; have q := (b_g2.at_ HU0.out).al; have f0 := b_g2.fr i)
      obtain ⟨hs, b_g3⟩ := b_g2.set (k := i) (A := some ⟨wr.heap.size, 0, none⟩) (n := m) (c := m) (by rw [HCS.out]; exact hin)
      have hr1 : BuIr w f n m K w.heap.size wr.heap.size i 0 (v2.setCell ⟨w.heap.size, i, none⟩ (.slice (some ⟨wr.heap.size, 0, none⟩) m m)) := by
        refine ⟨_, _, b_g3, by rw [List.length_set]; exact HCS.out, (HRW.out.keep hb2).set hs, fun j hj => ?_, ?_, hgl, p_r.pz.sto (by omega) hs, by simp, rfl, ms1 hs (Nat.le_refl _) (bthen hb hb2)⟩
        · rw [List.getElem?_set_ne (by omega)]
          obtain ⟨gk, h1, _, h3, _⟩ := HRW.out j hj
          rw [h1]
          intro e
          injection e with e; injection e with e; injection e with e; injection e with e
          omega
        · rw [List.getElem?_set_self (by rw [HCS.out]; exact hin)]
      obtain ⟨gi, hgi⟩ : ∃ g, wr.heap.size = g := ⟨_, rfl⟩
      rw [hgi] at hr1 ⊢
      clear b_g b_g2 b_g3 p_r q f0 hs hb hb2 HCS HRW HU0 hgl hgi
      go_wp2_with fail
      go_loopw [23] (fun kv wx => ∃ k : Nat, k ≤ m ∧ kv = .int .i64 (k : Int) ∧ BuIr w f n m K w.heap.size gi i k wx) (fun kv _ => m - (intOf kv).toNat)
      case atStart => exact ⟨0, by omega, rfl, hr1⟩
      case round =>
        clear hr1
        obtain ⟨k, hk, rfl, cs, L, b_g, hcs, hrw, hne, hci, hgl, p_r, hL, hLk, hb⟩ := hrel
        rcases (show m = k ∨ k < m by omega) with hkm | hkm
        · subst hkm
          have hLe : L = (List.range m).map (f i) := by rw [List.take_of_length_le (by omega), List.take_of_length_le (by simp)] at hLk; exact hLk
          subst hLe
          have hr2 : BuOr w f n m K w.heap.size (i + 1) wr := ⟨cs, b_g, hcs, fun j hj => by
            rcases (show j < i ∨ j = i by omega) with h1 | h1
            · exact hrw j h1
            · subst h1; exact ⟨gi, hci, hgl, p_r.lt, p_r⟩, hb⟩
          clear b_g hcs hrw hne hci hgl p_r hL hLk hb
          go_wp2_with fail
          exact ⟨⟨i + 1, by omega, by go_num, hr2⟩, by simp [intOf]; omega⟩
        · have hkL : k < L.length := by omega
          have hst : ∀ X, X = f i k → (L.set k X).take (k + 1) = ((List.range m).map (f i)).take (k + 1) := fun X hX => by
            rw [List.take_add_one, List.take_add_one, List.take_set_of_le (Nat.le_refl k), hLk, List.getElem?_set_self (by omega), List.getElem?_map, List.getElem?_range hkm, hX]; rfl
          obtain ⟨Y, hY⟩ : ∃ Y, f i k = Y := ⟨_, rfl⟩
          have HST := Lib.hid (hst Y hY.symm); have HY := Lib.hid hY
          have HKL := Lib.hid hkL; have HL := Lib.hid hL; have HLL := Lib.hid hcs; have HCI := Lib.hid hci; have HNE := Lib.hid hne; have HRW := Lib.hid hrw
          have HCALL := Lib.hid (fun wz hz => HC.out wz i k hin hkm hz)
          clear hst hY hkL hL hLk hcs hci hne hrw
          have q := (b_g.at_ HCI.out).al
          obtain ⟨b9, A9, n9, c9, x_t, _⟩ := p_r.ec (k := k) HKL.out
          generalize L[k] = X9 at *
          have q_t := x_t.al
          have f0 := p_r.fr (k * 2); have f1 := p_r.fr (k * 2 + 1)
          go_upto_region 9 with fail
          go_region_law (first | (go_simp; (with_reducible refine (HCALL.out _ (below_drew hb)).mono ?_); rintro e v5 ⟨b8, A8, n8, c8, rfl, z8, hb5⟩; rw [HY.out] at z8; replace hb5 := undrew hb5; replace HRW := Lib.hid (HRW.out.keep hb5); obtain ⟨b_g, p_r, x_t, hb⟩ := mv4 hb5 b_g p_r x_t hb; clear hb5; replace q := (b_g.at_ HCI.out).al; replace q_t := x_t.al; replace f0 := p_r.fr (k * 2); replace f1 := p_r.fr (k * 2 + 1)))
          all_goals
            go_wp2_with fail
            obtain ⟨hs, hp2⟩ := p_r.set (k := k) HKL.out z8
            refine ⟨⟨k + 1, by omega, by go_num, cs, _, b_g.sto (by omega) hs, HLL.out, HRW.out.sto HNE.out hs, HNE.out, HCI.out, hgl, hp2, by rw [List.length_set]; exact HL.out, HST.out, ms1 hs (by omega) hb⟩, by simp [intOf]; omega⟩
end Go.Proofs.YtbpamkpclofnbaaGreat
namespace Go.Proofs.YtbpamkpclofnbaaGreat
open Go.RowKit
open MP.Se (nf co)
set_option linter.unusedVariables false
set_option maxRecDepth 100000

/-- A matrix with a column more. -/
def aug (n : Nat) (A : MD.Mx) (l : List Int) : MD.Mx := fun i k => if k = n then l.getD i 0 else A i k
/-- What solves. -/
def svx (n : Nat) (A : MD.Mx) (l : List Int) (k : Nat) : Int := -(MD.sg n * crs n (aug n A l) k)
theorem aug_det (n : Nat) (A : MD.Mx) (l : List Int) : MD.sg n * crs n (aug n A l) n = MD.det n A := by
  unfold crs
  rw [← Int.mul_assoc, MD.sg_sq, Int.one_mul]
  exact MD.det_congr fun i k hi hk => by simp [MD.cut, aug, MD.dl_lt hk]; omega
theorem par0_sg (k : Nat) {β : Bool} (h : ((k : Int) % 2 == 0) = β) (Y : Int) : (if β then -Y else Y) = -(MD.sg k * Y) := by
  rw [← h]
  unfold MD.sg
  rcases Nat.mod_two_eq_zero_or_one k with h | h
  · have : (k : Int) % 2 = 0 := by omega
    simp [h, this]
  · have : (k : Int) % 2 = 1 := by omega
    simp [h, this]
theorem ent_SolC : ∀ (args : Array Value) (w : World), (callFunc 99 args).run Tryz.prog w = .ok (.enter 99 args) w := enters_of Tryz.func99 (by kernel_rfl) rfl
theorem SolC_any {w : World} {B B2 gn gb ga n ca cb i k J : Nat} {A Ab : Option Addr} {M : List (List Int)} {bl : List Int} (x_n : Vc w gn 0 (.int .i64 (n : Int))) (x_b : Vc w gb 0 (.slice Ab n cb)) (x_a : Vc w ga 0 (.slice A n ca))
    (p : Pe w B2 Ab n cb bl J) (h : Me w B A n ca M J) (hM : Rt M n n) (hi : i < n) (hk : k < n + 1) (hn : n ≤ 1000) :
    Calls Tryz.prog 99 #[.int .i64 (i : Int), .int .i64 (k : Int), .pointer (some ⟨gn, 0, none⟩), .pointer (some ⟨gb, 0, none⟩), .pointer (some ⟨ga, 0, none⟩)] w (OutR w (aug n (mx M) bl i k) J) := by
  have hgn := x_n.lt; have hgb := x_b.lt; have hga := x_a.lt
  rcases (show k = n ∨ k < n by omega) with hkn | hkn
  · subst hkn
    have hl := p.2.len
    obtain ⟨d3, o3, b7, A7, n7, c7, rfl, hd3, x_e, z7⟩ := p.ec hi
    have e : aug k (mx M) bl i k = bl[i] := by simp [aug, List.getD]; grind
    rw [e]
    generalize bl[i] = Y at *
    clear e p h hM hl
    go_enter Tryz.func99, Tryz.ntmps99
    have hb := Below.refl w.heap.size w
    go_upto_region 1 with fail
    refine al1 fun v1 hb x_r => ?_
    replace x_r := Bx.of x_r
    obtain ⟨x_n, x_b, x_e, z7⟩ := mv4 hb x_n x_b x_e z7
    have q_r := x_r.al
    have q_n := x_n.al
    have q_b := x_b.al
    have q_e := x_e.al
    go_wp2_with fail
    refine x_r.st fun v2 hs hx => ?_
    have q_x := hx.al
    have hb2 : Below w.heap.size w v2 := ms1 hs (Nat.le_refl _) hb
    have z9 : Zr v2 b7 A7 n7 c7 Y J := Ms.ms hs trivial z7
    refine bodyPost_ret (v := .agg #[.bool b7, .slice A7 n7 c7]) (by simp [results, Tryz.results99, go_sem, q_x]) rfl ?_
    exact ⟨_, _, _, _, rfl, z9, hb2⟩
  · have h1 : i < M.length := by rw [hM.1]; exact hi
    have h3 : k < M[i].length := by rw [hM.2.2.2 i h1]; exact hkn
    obtain ⟨d, o, A5, m5, c5, rfl, hd, x_i, p_i⟩ := h.row hi
    have hm5 : k < m5 := by rw [← p_i.2.len]; exact h3
    have hm5b := p_i.2.big
    obtain ⟨d3, o3, b7, A7, n7, c7, rfl, hd3, x_e, z7⟩ := p_i.ec hm5
    have e : aug n (mx M) bl i k = M[i][k] := by rw [← mx_at h1 h3]; simp [aug]; omega
    rw [e]
    generalize M[i][k] = Y at *
    have hna := h.big
    have hne : ((k : Int) == (n : Int)) = false := by simp; omega
    clear e p_i h1 h3 hM h p
    go_enter Tryz.func99, Tryz.ntmps99
    have hb := Below.refl w.heap.size w
    go_upto_region 1 with fail
    refine al1 fun v1 hb x_r => ?_
    replace x_r := Bx.of x_r
    obtain ⟨x_n, x_a, x_i, x_e, z7⟩ := mv5 hb x_n x_a x_i x_e z7
    have q_r := x_r.al
    have q_n := x_n.al
    have q_a := x_a.al
    have q_i := x_i.al
    have q_e := x_e.al
    go_wp2_with fail
    refine x_r.st fun v2 hs hx => ?_
    have q_x := hx.al
    have hb2 : Below w.heap.size w v2 := ms1 hs (Nat.le_refl _) hb
    have z9 : Zr v2 b7 A7 n7 c7 Y J := Ms.ms hs trivial z7
    refine bodyPost_ret (v := .agg #[.bool b7, .slice A7 n7 c7]) (by simp [results, Tryz.results99, go_sem, q_x]) rfl ?_
    exact ⟨_, _, _, _, rfl, z9, hb2⟩
theorem lsN_congr {m : Nat} {f g : Nat → Int} (h : ∀ k, k < m → f k = g k) : lsN m f = lsN m g := List.map_congr_left fun k hk => h k (List.mem_range.1 hk)
theorem mo2_mx {f : Nat → Nat → Int} {n m i k : Nat} (hi : i < n) (hk : k < m) : mx (mo2 f n m) i k = f i k := by
  have h1 : i < (mo2 f n m).length := by rw [mo2_len]; exact hi
  have h2 := mo2_row h1
  rw [mx_at h1 (by rw [h2]; simpa using hk)]
  simp [h2]
theorem crs_congr {n k : Nat} {A B : MD.Mx} (h : ∀ i j, i < n → j < n + 1 → A i j = B i j) (hk : k < n + 1) : crs n A k = crs n B k := by
  unfold crs
  rw [MD.det_congr (A := MD.cut A k) (B := MD.cut B k) fun i j hi hj => h i (MD.dl k j) hi (MD.dl_bd hj)]
theorem aug_crs (n : Nat) (f : MD.Mx) : lsN (n + 1) (crs n (mx (mo2 f n (n + 1)))) = lsN (n + 1) (crs n f) := lsN_congr fun k hk => crs_congr (fun i j hi hj => mo2_mx hi hj) hk
/-- What Solve tells. -/
def SvP (w : World) (M : List (List Int)) (l : List Int) (n K : Nat) (e : Ending) (w' : World) : Prop := Below w.heap.size w w' ∧
  ((¬ (Rt M n n ∧ l.length = n) ∧ e = .returned (.tuple #[.slice none 0 0, .agg #[.bool false, .slice none 0 0], .int .i64 1])) ∨
   (Rt M n n ∧ l.length = n ∧ MD.det n (mx M) = 0 ∧ e = .returned (.tuple #[.slice none 0 0, .agg #[.bool false, .slice none 0 0], .int .i64 8])) ∨
   (Rt M n n ∧ l.length = n ∧ MD.det n (mx M) ≠ 0 ∧ ∃ A c A2 k c2, e = .returned (.tuple #[.slice A n c, .agg #[.bool (ngB (MD.det n (mx M))), .slice A2 k c2], .int .i64 0]) ∧
     Po w' w.heap.size A n c (lsN n (svx n (mx M) l)) K ∧ Zn w' A2 k c2 (MD.det n (mx M)) K))
set_option maxHeartbeats 4000000 in
theorem MSolve_any {w : World} {n c nb cb J : Nat} {A Ab : Option Addr} {M : List (List Int)} {bl : List Int} (h : Md w w.heap.size A n c M J) (p : Pd w w.heap.size Ab nb cb bl J) (hn : n ≤ 999) (hJ : 1 ≤ J) (hK : kb J n ≤ 900000) :
    Calls Tryz.prog 42 #[.slice A n c, .slice Ab nb cb] w (SvP w M bl n (kb J n)) := by
  have hl := h.len
  have hlb := p.len
  replace h := h.me
  replace p : Pe w w.heap.size Ab nb cb bl J := ⟨Nat.le_refl _, p⟩
  go_enter Tryz.func42, Tryz.ntmps42
  go_upto_region 1 with fail
  obtain ⟨ga, hga⟩ : ∃ g, w.heap.size = g := ⟨_, rfl⟩
  have hw1 : (((w.alloc (.cells #[Value.slice A n c] 35)).alloc (.cells #[Value.slice Ab nb cb] 22)).heap.size) = ga + 1 + 1 := by simp [hga]
  refine al3 fun v2 hb x_a x_b x_o => ?_
  replace x_a := Vc.of x_a; replace x_b := Vc.of x_b; replace x_o := Bx.of x_o
  clear hw1
  rw [hga] at x_a x_b x_o
  simp only [hga]
  replace h := h.keep hb; replace p := p.keep hb
  have hbs := hb.size
  have q_a := x_a.al; have q_b := x_b.al; have q_o := x_o.al
  go_wp2_with fail
  with_reducible refine (Msquare_any h.md).mono ?_
  rintro e v3 ⟨hsq, hb1⟩
  obtain ⟨h, p, x_a, x_b, x_o, hb⟩ := mv6 hb1 h p x_a x_b x_o hb
  clear hb1 q_a q_b q_o
  have q_a := x_a.al; have q_b := x_b.al; have q_o := x_o.al
  rcases hsq with ⟨rfl, hR⟩ | ⟨rfl, hR⟩
  rotate_left
  · have HR := Lib.hid hR
    clear hR h p
    go_wp2
    refine x_o.st fun v4 hs hx => ?_
    have q_x := hx.al
    have hb4 : Below w.heap.size w v4 := ms1 hs (by omega) hb
    refine bodyPost_ret (v := .tuple #[.slice none 0 0, .agg #[.bool false, .slice none 0 0], .int .i64 1]) (by simp [results, Tryz.results42, go_sem, q_x]) rfl ?_
    exact ⟨hb4, .inl ⟨fun h => HR.out h.1, rfl⟩⟩
  have HR := Lib.hid hR
  have hn1 := hR.2.1
  clear hR
  rcases (show ¬ nb = n ∨ nb = n by omega) with hnb | hnb
  · have HN := Lib.hid hnb
    have hne : ((nb : Int) == (n : Int)) = false := by simp; omega
    clear hnb h p
    go_wp2
    refine x_o.st fun v4 hs hx => ?_
    have q_x := hx.al
    have hb4 : Below w.heap.size w v4 := ms1 hs (by omega) hb
    refine bodyPost_ret (v := .tuple #[.slice none 0 0, .agg #[.bool false, .slice none 0 0], .int .i64 1]) (by simp [results, Tryz.results42, go_sem, q_x]) rfl ?_
    exact ⟨hb4, .inl ⟨fun h => HN.out (by omega), rfl⟩⟩
  subst hnb
  obtain ⟨m, hm⟩ : ∃ m, m = nb + 1 := ⟨_, rfl⟩
  have hw1 : IntKind.i64.wrap ((nb : Int) + 1) = (m : Int) := by rw [i64_keep (by omega) (by omega)]; omega
  go_upto_region 4 with fail
  refine al1 fun v4 hb1 x_n => ?_
  replace x_n := Vc.of x_n
  obtain ⟨h, p, x_a, x_b, x_o, hb⟩ := mv6 hb1 h p x_a x_b x_o hb
  have hs3 := hb1.size
  clear hb1 q_a q_b q_o
  have q_o := x_o.al; have q_n := x_n.al
  have C : Bcr v4 99 #[.pointer (some ⟨v3.heap.size, 0, none⟩), .pointer (some ⟨ga + 1, 0, none⟩), .pointer (some ⟨ga, 0, none⟩)] (aug nb (mx M) bl) nb m J := ⟨ent_SolC, fun w3 i k hi hk hb3 => SolC_any (x_n.keep hb3) (x_b.keep hb3) (x_a.keep hb3) (p.keep hb3) (h.keep hb3) HR.out hi (by omega) (by omega)⟩
  have HC := Lib.hid C
  clear C
  have HM := Lib.hid hm
  have hm2 : m ≤ 1000 := by omega
  clear hm h p
  go_wp2_with fail
  with_reducible refine (Mbuildr_any HC.out (by omega) (by omega) (by have := kb_mono (J := J) (Nat.zero_le nb); simp only [kb] at this; omega)).mono ?_
  rintro e v5 ⟨A5, c5, rfl, h5, hb1⟩
  obtain ⟨x_o, x_n, hb⟩ := mv3 hb1 x_o x_n hb
  clear hb1 HC q_o q_n x_a x_b
  have q_o := x_o.al; have q_n := x_n.al
  go_wp2_with fail
  with_reducible refine (Mcross_any h5 HM.out (fun k hk => by rw [mo2_row hk]; simp) (by omega) (by omega) hJ hK).mono ?_
  rintro e v6 ⟨A6, n6, c6, rfl, p6, hb1⟩
  obtain ⟨x_o, x_n, hb⟩ := mv3 hb1 x_o x_n hb
  have hs6 := hb1.size
  clear hb1 q_o q_n h5
  have q_o := x_o.al; have q_n := x_n.al
  have hL : lsN m (crs nb (mx (mo2 (aug nb (mx M) bl) nb m))) = lsN m (crs nb (aug nb (mx M) bl)) := by have := HM.out; subst this; exact aug_crs _ _
  rw [hL] at p6
  clear hL
  have hl6 := p6.pd.len
  rw [lsN_len] at hl6
  subst hl6
  have p6e : Pe v6 v6.heap.size A6 m c6 (lsN m (crs nb (aug nb (mx M) bl))) (kb J nb) := ⟨Nat.le_refl _, p6.pd⟩
  obtain ⟨d3, o3, b7, A7, n7, c7, rfl, hd3, x_e, z7⟩ := p6e.ec (k := nb) (by have := HM.out; omega)
  rw [lsN_at] at z7
  have q_e := x_e.al
  have hnm : nb < m := by have := HM.out; omega
  have hbg := p6.pd.big
  go_wp2_with fail
  with_reducible refine (ZSign_any z7 (by omega)).mono ?_
  rintro e v7 ⟨rfl, hb1⟩
  have HD : Hid (MD.sg nb * crs nb (aug nb (mx M) bl) nb = MD.det nb (mx M)) := Lib.hid (aug_det _ _ _)
  obtain ⟨Y, hY⟩ : ∃ Y, crs nb (aug nb (mx M) bl) nb = Y := ⟨_, rfl⟩
  rw [hY] at z7 HD
  simp only [hY]
  have HY := Lib.hid hY
  obtain ⟨x_o, x_n, x_e, z7, hb⟩ := mv5 hb1 x_o x_n x_e z7 hb
  have hs7 := hb1.size
  replace p6e := p6e.keep hb1
  replace p6 := p6.keep hb1
  clear hb1 q_o q_n q_e hY
  have q_o := x_o.al; have q_n := x_n.al; have q_e := x_e.al
  by_cases hY0 : Y = 0
  · have h0 : MD.det nb (mx M) = 0 := by rw [← HD.out, hY0, Int.mul_zero]
    have H0 := Lib.hid h0
    have hs0 : sgnI Y = 0 := by rw [hY0]; rfl
    rw [hs0]
    clear h0 hs0 p6 p6e z7
    go_wp2
    refine x_o.st fun v8 hs hx => ?_
    have q_x := hx.al
    have hb8 : Below w.heap.size w v8 := ms1 hs (by omega) hb
    refine bodyPost_ret (v := .tuple #[.slice none 0 0, .agg #[.bool false, .slice none 0 0], .int .i64 8]) (by simp [results, Tryz.results42, go_sem, q_x]) rfl ?_
    exact ⟨hb8, .inr (.inl ⟨HR.out, by assumption, H0.out, rfl⟩)⟩
  have H0 : Hid (MD.det nb (mx M) ≠ 0) := Lib.hid (by rw [← HD.out]; unfold MD.sg; split <;> omega)
  have hs0 : (sgnI Y == 0) = false := by have := mt sgnI_eq0.1 hY0; simpa using this
  have hs1 : sgnI Y ≠ 0 := by simpa using hs0
  have HS := Lib.hid hs1
  generalize sgnI Y = sY at *
  clear HS
  go_upto_region 7 with fail
  go_wp2_with (at_make; refine wp_makeR rfl _ _ rfl nb (kb J nb) _ _ rfl rfl rfl rfl (by omega) ?_; intro v8 p_x hb8)
  obtain ⟨gx, hgx⟩ : ∃ g, v7.heap.size = g := ⟨_, rfl⟩
  have HL := Lib.hid hlb
  have hr0 : ∃ L1, Pw v8 gx L1 (kb J nb) ∧ L1.length = nb ∧ ∀ k, k < 0 → L1.getD k 0 = svx nb (mx M) bl k := ⟨_, hgx ▸ p_x, by simp, fun k hk => absurd hk (by omega)⟩
  have hb8' : Below gx v7 v8 := hgx ▸ hb8
  simp only [hgx]
  have hgo : ga + 1 + 1 ≠ gx := by have := x_o.lt; rw [hgx] at this; omega
  have hwg : ga ≤ gx := by have := hb.size; rw [hga, hgx] at this; exact this
  clear p_x hlb hb8 q_e q_n q_o
  go_wp2_with fail
  go_loopw [41] (fun kv wr => ∃ i : Nat, i ≤ nb ∧ kv = .int .i64 (i : Int) ∧ (∃ L1, Pw wr gx L1 (kb J nb) ∧ L1.length = nb ∧ ∀ k, k < i → L1.getD k 0 = svx nb (mx M) bl k) ∧ Below gx v7 wr) (fun kv _ => nb - (intOf kv).toNat)
  case atStart => exact ⟨0, by omega, rfl, hr0, hb8'⟩
  case round =>
    clear hr0 hb8'
    obtain ⟨i, hi, rfl, ⟨L1, p_x, hL1, hL2⟩, hb8⟩ := hrel
    have HL1 := Lib.hid hL1; have HL2 := Lib.hid hL2
    have hb9 : Below v7.heap.size v7 wr := hgx.symm ▸ hb8
    obtain ⟨x_o, x_n, x_e, z7, hb⟩ := mv5 hb9 x_o x_n x_e z7 hb
    replace p6e := p6e.keep hb9
    replace p6 := p6.keep hb9
    have q_o := x_o.al; have q_n := x_n.al; have q_e := x_e.al
    clear hL1 hL2 hb9
    rcases (show nb = i ∨ i < nb by omega) with hin | hin
    · subst hin
      obtain ⟨β, hβ⟩ : ∃ β, ((nb : Int) % 2 == 1) = β := ⟨_, rfl⟩
      have hβ2 : ((nb : Int).tmod 2 == 1) = β := by rw [Int.tmod_eq_emod_of_nonneg (by omega)]; exact hβ
      have HV : Hid ((if β then -Y else Y) = MD.det nb (mx M)) := Lib.hid ((par_sg nb hβ Y).trans HD.out)
      go_upto_region 13 with fail
      go_region_law (first | (go_simp; go_at_call 91; (with_reducible refine (Msigned_any (β := β) (Zr.drw z7) (by omega)).mono ?_); rintro e v9 ⟨A8, n8, c8, rfl, z8, hb1⟩; rw [HV.out] at z8 ⊢; replace hb1 := undrew hb1; replace p_x := p_x.keep hb1; obtain ⟨x_o, x_n, x_e, hb⟩ := mv4 hb1 x_o x_n x_e hb; clear hb1; replace q_o := x_o.al; replace q_n := x_n.al; replace q_e := x_e.al))
      all_goals
        go_wp2
        refine x_o.st fun v10 hs hx => ?_
        have q_x := hx.al
        have hb10 : Below w.heap.size w v10 := ms1 hs (by omega) hb
        have z10 : Zn v10 A8 n8 c8 (MD.det nb (mx M)) (kb J nb) := Ms.ms hs trivial z8
        have p10 := p_x.sto (Ne.symm hgo) hs
        have hLe : L1 = lsN nb (svx nb (mx M) bl) := List.ext_getElem (by rw [lsN_len]; exact HL1.out) fun k h1 h2 => by
          rw [lsN_at, ← HL2.out k (by rw [← HL1.out]; exact h1)]
          simp [List.getD, h1]
        have p11 := p10.po (B := w.heap.size) (by omega)
        rw [HL1.out, hLe] at p11
        refine bodyPost_ret (v := .tuple #[.slice (some ⟨gx, 0, none⟩) nb nb, .agg #[.bool (ngB (MD.det nb (mx M))), .slice A8 n8 c8], .int .i64 0]) (by simp [results, Tryz.results42, go_sem, q_x]) rfl ?_
        exact ⟨hb10, .inr (.inr ⟨HR.out, by assumption, H0.out, _, _, _, _, _, rfl, p11, z10⟩)⟩
    · obtain ⟨d4, o4, b5, A5, n5, c5, e4, hd4, y_e, z5⟩ := p6e.ec (k := i) (by omega)
      rw [lsN_at] at z5
      injection e4 with e4; injection e4 with e4 e5; subst e4; subst e5
      obtain ⟨β, hβ⟩ : ∃ β, ((nb : Int) % 2 == 0) = β := ⟨_, rfl⟩
      have hβ2 : ((nb : Int).tmod 2 == 0) = β := by rw [Int.tmod_eq_emod_of_nonneg (by omega)]; exact hβ
      have him : i < m := by omega
      have hgxw : gx ≤ wr.heap.size := Nat.le_of_lt p_x.lt
      have HV : Hid ((if β then -(crs nb (aug nb (mx M) bl) i) else crs nb (aug nb (mx M) bl) i) = svx nb (mx M) bl i) := Lib.hid (par0_sg nb hβ _)
      obtain ⟨A9, n9, c9, x_t, _⟩ := p_x.ec (k := i) (by rw [HL1.out]; exact hin)
      have HY2 : Hid (∀ k, k < i + 1 → (L1.set i (svx nb (mx M) bl i)).getD k 0 = svx nb (mx M) bl k) := Lib.hid fun k hk => by
          rw [set_getD (by rw [HL1.out]; exact hin)]
          split
          · next e => rw [e]
          · exact HL2.out k (by omega)
      generalize crs nb (aug nb (mx M) bl) i = U at *
      generalize L1[i]'(by rw [HL1.out]; exact hin) = X9 at *
      have q_t := x_t.al; have f_t := And.intro (p_x.fr (i * 2)) (p_x.fr (i * 2 + 1))
      have q_y := y_e.al
      clear q_e
      go_upto_region 11 with fail
      go_region_law (first | (go_simp; go_at_call 91; (with_reducible refine (Msigned_any (β := β) (Zr.drw z5) (by omega)).mono ?_); rintro e v9 ⟨A8, n8, c8, rfl, z8, hb1⟩; rw [HV.out] at z8 ⊢; replace hb1 := undrew hb1; obtain ⟨x_n, y_e, p_x, x_t, hb⟩ := mv5 hb1 x_n y_e p_x x_t hb; replace hb8 := hb8.trans (hb1.mono hgxw); clear hb1; replace q_n := x_n.al; replace q_y := y_e.al; replace q_t := x_t.al; replace f_t := And.intro (p_x.fr (i * 2)) (p_x.fr (i * 2 + 1))))
      all_goals
        go_wp2_with fail
        obtain ⟨hs, hp2⟩ := p_x.set (k := i) (by rw [HL1.out]; exact hin) z8
        refine ⟨⟨i + 1, by omega, by go_num, ⟨_, hp2, by rw [List.length_set]; exact HL1.out, HY2.out⟩, by have h9 : Below v7.heap.size v7 v9 := (by rw [hgx]; exact hb8); have h9 := ms1 hs (Nat.le_of_eq hgx) h9; rw [hgx] at h9; exact h9⟩, by simp [intOf]; omega⟩
end Go.Proofs.YtbpamkpclofnbaaGreat
namespace Go.Proofs.YtbpamkpclofnbaaGreat
open MD
set_option linter.unusedVariables false

/-- What solves, solves. -/
theorem svx_sol {n i : Nat} (hi : i < n) (A : Mx) (l : List Int) : (sm n fun k => A i k * svx n A l k) = det n A * l.getD i 0 := by
  have h := cut_sol hi (aug n A l)
  have e : (sm (n + 1) fun k => aug n A l i k * (sg k * det n (cut (aug n A l) k))) = (sm n fun k => A i k * crs n (aug n A l) k) + l.getD i 0 * crs n (aug n A l) n := by
    simp only [sm]
    congr 1
    · exact sm_congr fun k hk => by
        have : aug n A l i k = A i k := by simp [aug]; omega
        rw [this]; rfl
    · have : aug n A l i n = l.getD i 0 := by simp [aug]
      rw [this]; rfl
  rw [e] at h
  have e2 : (sm n fun k => A i k * svx n A l k) = -sg n * sm n fun k => A i k * crs n (aug n A l) k := by
    rw [← sm_mul]
    exact sm_congr fun k hk => by unfold svx; grind
  rw [e2, ← aug_det n A l]
  grind
end Go.Proofs.YtbpamkpclofnbaaGreat
namespace Go.Proofs.YtbpamkpclofnbaaGreat
open Go.RowKit
open MP.Se (nf co)
set_option linter.unusedVariables false
set_option maxRecDepth 100000

theorem run_pushZ0I (w : World) (ty : TypeId) {g0 : Nat} {b : Bool} {A : Option Addr} {m c : Nat} (h0 : w.cell? ⟨g0, 0, none⟩ = some (.bool b)) (h1 : w.cell? ⟨g0, 1, none⟩ = some (.slice A m c)) :
    ∃ cap w', (Builtin.append_ #[22, 22] ty #[.slice none 0 0, .slice (some ⟨g0, 0, none⟩) 1 1]).run Tryz.prog w = .ok (.slice (some ⟨w.heap.size, 0, none⟩) 1 cap) w' ∧ Oz w' w.heap.size 1 cap [.bool b, .slice A m c] ∧ Below w.heap.size w w' := by
  obtain ⟨i0, hi, hz0, hz1, hz2⟩ := info_parts Tryz.infoI
  have hr := run_append_nil (P := Tryz.prog) w 22 ty 30 i0 _ Tryz.underlying22 hi hz0 ⟨g0, 0, none⟩ 1 1 [.bool b, .slice A m c] (by rw [hz1]; rfl) (two_cells h0 h1) (by omega) (by omega) (by rw [hz2]; omega)
  have hge := grownCap_ge w 1 0 30
  refine ⟨_, _, hr, ⟨_, heap_alloc_new w.drew _, hge, grownCap_le_maxLen w 1 0 _ (by unfold maxLen; omega), ?_, ?_, rfl, ?_⟩, (below_drew (Below.refl w.heap.size w)).alloc (Nat.le_refl _) _⟩
  · simp only [Array.size_append, List.size_toArray, size_zeroCells]
    simp [Value.cells]
    omega
  · simp
  · rw [Array.toList_append]
    exact kd_app (kd_two b A m c) (kd_zero _)
theorem run_pushZI (w : World) (ty : TypeId) {g n cap : Nat} {xs : List Value} (h : Oz w g n cap xs) (hn : n ≤ 1000) {g0 : Nat} {b : Bool} {A : Option Addr} {m c : Nat} (h0 : w.cell? ⟨g0, 0, none⟩ = some (.bool b)) (h1 : w.cell? ⟨g0, 1, none⟩ = some (.slice A m c)) :
    ∃ g' cap' w', (Builtin.append_ #[22, 22] ty #[.slice (some ⟨g, 0, none⟩) n cap, .slice (some ⟨g0, 0, none⟩) 1 1]).run Tryz.prog w = .ok (.slice (some ⟨g', 0, none⟩) (n + 1) cap') w' ∧ Oz w' g' (n + 1) cap' (xs ++ [.bool b, .slice A m c]) ∧ w.grownBy w' (some g) ∧ (g' = g ∨ g' = w.heap.size) := by
  obtain ⟨i0, hi, hz0, hz1, hz2⟩ := info_parts Tryz.infoI
  obtain ⟨cur, hh, hnc, hcm, hcs, htk, hxl, hk⟩ := h
  by_cases hroom : n + 1 ≤ cap
  · have hr := run_append_room (P := Tryz.prog) w 22 ty 30 i0 Tryz.underlying22 hi g n cap cur hh ⟨g0, 0, none⟩ 1 1 [.bool b, .slice A m c] (by rw [hz1]; rfl) (two_cells h0 h1) (fun u hu => by simp at hu; rcases hu with rfl | rfl <;> rfl) hroom (by rw [hz1, hcs]; simp; omega)
    rw [hz1] at hr
    refine ⟨g, cap, _, hr, ⟨_, setRow_heap w g cur _ _ _ hh, hroom, hcm, ?_, ?_, by simp [hxl]; omega, ?_⟩, ⟨rfl, rfl, rfl, by simp [World.setRow], fun k _ hk => setRow_other w g k _ (fun e => hk (by rw [e]))⟩, .inl rfl⟩
    · simp [hcs]
      omega
    · rw [htk, show (n + 1) * 2 = (xs ++ [Value.bool b, Value.slice A m c]).length by simp [hxl]; omega]
      exact List.take_left
    · refine kd_app (kd_app ?_ (kd_two b A m c)) ?_
      · exact fun u hu x => hk u (List.mem_of_mem_take hu) x
      · exact fun u hu x => hk u (List.mem_of_mem_drop hu) x
  · have hxk : Kd xs := fun u hu x => hk u (List.mem_of_mem_take (by rw [htk]; exact hu)) x
    have hr := run_append_grow (P := Tryz.prog) w 22 ty 30 i0 _ Tryz.underlying22 hi hz0 ⟨g, 0, none⟩ n cap xs (by rw [hz1]; exact hxl) (fun j u hj => by
        have hjl : j < xs.length := (List.getElem?_eq_some_iff.1 hj).1
        have hcj : w.cell? ⟨g, j, none⟩ = some u := by
          rw [cell_of_row w g j _ _ (0, 0) hh, ← hj, ← htk, List.getElem?_take_of_lt (by omega)]
          simp
        unfold Addr.add
        by_cases hj0 : j = 0
        · subst hj0; simpa using hcj
        · simpa [hj0] using hcj) ⟨g0, 0, none⟩ 1 1 [.bool b, .slice A m c] (by rw [hz1]; rfl) (two_cells h0 h1) (by omega) (by omega) (growslice_fits (by omega) (by rw [hz2]; omega))
    have hge := grownCap_ge w (n + 1) cap 30
    refine ⟨_, _, _, hr, ⟨_, heap_alloc_new w.drew _, hge, grownCap_le_maxLen w (n + 1) cap _ (by unfold maxLen; omega), ?_, ?_, by simp [hxl]; omega, ?_⟩, ⟨rfl, rfl, rfl, by simp, fun k hk _ => heap_alloc_old w.drew _ hk⟩, .inr rfl⟩
    · simp only [Array.size_append, List.size_toArray, size_zeroCells]
      simp [Value.cells, hxl]
      omega
    · simp only [Array.toList_append, List.append_assoc]
      rw [← List.append_assoc, show (n + 1) * 2 = (xs ++ [Value.bool b, Value.slice A m c]).length by simp [hxl]; omega]
      exact List.take_left
    · simp only [Array.toList_append]
      exact kd_app (kd_app hxk (kd_two b A m c)) (kd_zero _)
/-- What append does, at the operation: onto nothing, onto some. -/
theorem run_pushGI (V : World) (ty : TypeId) {B J m c : Nat} {s : Value} {l : List Int} {A : Option Addr} {X : Int} (h : Gz V B J s l) (hn : l.length ≤ 1000) (hB : B ≤ V.heap.size) (z : Zn V A m c X J) :
    ∃ s' w', (Builtin.append_ #[22, 22] ty #[s, .slice (some ⟨V.heap.size, 0, none⟩) 1 1]).run Tryz.prog (V.alloc (.cells #[.bool (ngB X), .slice A m c] 30)) = .ok s' w' ∧ Pu V B J s l X s' w' := by
  have hx := Bx.new V (ngB X) A m c
  have hsz : (V.alloc (.cells #[.bool (ngB X), .slice A m c] 30)).heap.size = V.heap.size + 1 := by simp
  rcases h with ⟨rfl, rfl⟩ | ⟨g, cap, xs, rfl, hg, ho, hc⟩
  · obtain ⟨cap, w', hr, h2, h3⟩ := run_pushZ0I (V.alloc (.cells #[.bool (ngB X), .slice A m c] 30)) ty hx.c0 hx.c1
    have hb := bthen (below_alloc V _) h3
    rw [hsz] at h2 hr
    exact ⟨_, _, hr, .inr ⟨_, cap, _, rfl, by omega, h2, ⟨A, m, c, [], rfl, z.keep hb, rfl⟩⟩, ⟨⟨hb.os, hb.tape, hb.output, hb.size, fun k hk _ => hb.block k hk⟩, fun _ _ _ _ h => h.go hb⟩, .inr ⟨V.heap.size + 1, by omega, rfl⟩⟩
  · obtain ⟨g', cap', w', hr, h2, h3, h4⟩ := run_pushZI (V.alloc (.cells #[.bool (ngB X), .slice A m c] 30)) ty (ho.alloc _) hn hx.c0 hx.c1
    have hG : Gr (.slice (some ⟨g, 0, none⟩) l.length cap) (V.alloc (.cells #[.bool (ngB X), .slice A m c] 30)) w' := ⟨h3, fun _ _ _ _ h => h.by_ (ho.alloc _) h3⟩
    have hG2 := hG.alloc
    have e : (l ++ [X]).length = l.length + 1 := by simp
    refine ⟨_, _, hr, .inr ⟨g', cap', _, by rw [e], ?_, by rw [e]; exact h2, (hc.to fun _ _ _ _ z => z.gr hG2).snoc (z.gr hG2)⟩, hG2, ?_⟩
    · rcases h4 with rfl | rfl
      · exact hg
      · omega
    · rcases h4 with rfl | rfl
      · exact .inl rfl
      · exact .inr ⟨_, Nat.le_trans (Nat.le_succ _) (Nat.le_of_eq hsz.symm), rfl⟩
theorem wpo_pushGI {V : World} {o : Oper} {a : Act} {K : Act → World → Prop} {Q : Exit → Act → World → Prop} (s x : Operand)
    (hop : o.op = .call { callee := .builtin .append, args := #[s, x], argTypes := #[22, 22] }) {v : Value} (hs : a.eval s = v)
    {B J m c : Nat} {l : List Int} {A : Option Addr} {X : Int} (h : Gz V B J v l) (hn : l.length ≤ 1000) (hB : B ≤ V.heap.size) (z : Zn V A m c X J) (hx : a.eval x = .slice (some ⟨V.heap.size, 0, none⟩) 1 1)
    (hK : ∀ s' w', Pu V B J v l X s' w' → K (a.put o.dst s') w') : o.wp Tryz.prog a (V.alloc (.cells #[.bool (ngB X), .slice A m c] 30)) K Q := by
  obtain ⟨s', w', hr, h2⟩ := run_pushGI V o.type h hn hB z
  unfold Oper.wp execOp
  simp only [hop, resolve, invoke, builtin, Sem.run_bind, Sem.run_pure, Result.andThen_ok, List.map_toArray, List.map_cons, List.map_nil, hs, hx, hr]
  exact hK _ _ h2
theorem step_pushGI {V : World} {ops : Array Oper} {o : Oper} {a : Act} {K : Act → World → Prop} {Q : Exit → Act → World → Prop} {E : Prop} (hgd : o.guard = none) (s x : Operand)
    (hop : o.op = .call { callee := .builtin .append, args := #[s, x], argTypes := #[22, 22] }) {v : Value} (hs : a.eval s = v)
    {B J m c : Nat} {l : List Int} {A : Option Addr} {X : Int} (h : Gz V B J v l) (hn : l.length ≤ 1000) (hB : B ≤ V.heap.size) (z : Zn V A m c X J) (hx : a.eval x = .slice (some ⟨V.heap.size, 0, none⟩) 1 1)
    (hK : ∀ s' w', Pu V B J v l X s' w' → K (a.put o.dst s') w') :
    if Region.wanted o (yielded ops a.tmps) = true then Oper.wp Tryz.prog o a (V.alloc (.cells #[.bool (ngB X), .slice A m c] 30)) K Q else E := by
  rw [if_pos (by simp [Region.wanted, hgd])]
  exact wpo_pushGI s x hop hs h hn hB z hx hK
theorem wp_pushGI {V : World} {ops : Array Oper} {rest : List Oper} {o : Oper} {a : Act} {Q : Exit → Act → World → Prop} (hgd : o.guard = none) (s x : Operand)
    (hop : o.op = .call { callee := .builtin .append, args := #[s, x], argTypes := #[22, 22] }) {v : Value} (hs : a.eval s = v)
    {B J m c : Nat} {l : List Int} {A : Option Addr} {X : Int} (h : Gz V B J v l) (hn : l.length ≤ 1000) (hB : B ≤ V.heap.size) (z : Zn V A m c X J) (hx : a.eval x = .slice (some ⟨V.heap.size, 0, none⟩) 1 1)
    (hK : ∀ s' w', Pu V B J v l X s' w' → wpList Tryz.prog ops Q rest (a.put o.dst s') w') : wpList Tryz.prog ops Q (o :: rest) a (V.alloc (.cells #[.bool (ngB X), .slice A m c] 30)) :=
  wpList_plain hgd fun K hK2 => wpo_pushGI s x hop hs h hn hB z hx fun s' w' h2 => hK2 _ _ (hK s' w' h2)
theorem gz_new {v : World} {B J g : Nat} (x : v.heap[g]? = some (.cells #[] 30 (0, 0))) (hB : B ≤ g) : Gz v B J (.slice (some ⟨g, 0, none⟩) 0 0) [] :=
  .inr ⟨_, 0, [], rfl, hB, ⟨#[], x, Nat.le_refl _, by unfold maxLen; omega, rfl, rfl, rfl, fun u hu => by cases hu⟩, rfl⟩
/-- The rows of a list, so many in a row. -/
def rowL (cols k : Nat) (xs : List Int) : List Int := (xs.drop (k * cols)).take cols
/-- What of has made: the rows, none of them where the outer slice is. -/
def OfR (w : World) (s : Value) (cols : Nat) (xs : List Int) (cs : List Value) : Prop :=
  ∀ k (hk : k < cs.length), ∃ g c, cs[k] = .slice (some ⟨g, 0, none⟩) cols c ∧ g < w.heap.size ∧ s.ownBlock ≠ some g ∧ Pn w (some ⟨g, 0, none⟩) cols c (rowL cols k xs) 1
theorem OfR.keep {w v : World} {s : Value} {cols : Nat} {xs : List Int} {cs : List Value} (h : OfR w s cols xs cs) (hb : Below w.heap.size w v) : OfR v s cols xs cs := fun k hk => by
  obtain ⟨g, c, h1, h2, h3, h4⟩ := h k hk
  exact ⟨g, c, h1, Nat.lt_of_lt_of_le h2 hb.size, h3, h4.keep hb⟩
theorem Pn.gr0 {w w' : World} {s : Value} {g n c J : Nat} {l : List Int} (p : Pn w (some ⟨g, 0, none⟩) n c l J) (hg : Gr s w w') (hl : g < w.heap.size) (hne : s.ownBlock ≠ some g) : Pn w' (some ⟨g, 0, none⟩) n c l J := ⟨p.1, p.2.1, p.2.2.1, fun hn => by
  obtain ⟨d, o, e, hd, hc⟩ := p.2.2.2 hn
  injection e with e; injection e with e1 e2; subst e1; subst e2
  refine ⟨g, 0, rfl, Nat.lt_of_lt_of_le hl hg.grown.size, fun k hk => ?_⟩
  obtain ⟨A', m, c', h1, h2, h3⟩ := hc k hk
  have hx := hg.at_ hl hne
  exact ⟨A', m, c', (World.cell?_of_block hx).trans h1, (World.cell?_of_block hx).trans h2, h3.gr hg⟩⟩
theorem Gz.blk {w : World} {B J : Nat} {s : Value} {l : List Int} (h : Gz w B J s l) (hl : 0 < l.length) (hn : l.length ≤ 100000) : ∃ g c, s = .slice (some ⟨g, 0, none⟩) l.length c ∧ B ≤ g ∧ g < w.heap.size ∧ Pn w (some ⟨g, 0, none⟩) l.length c l J := by
  obtain ⟨A, c, e, p⟩ := h.pn hn
  rcases h with ⟨_, h0⟩ | ⟨g, cap, xs, e2, hg, ho, _⟩
  · rw [h0] at hl; simp at hl
  · rw [e2] at e
    injection e with e1 e3 e4
    subst e1; subst e4
    exact ⟨g, cap, e2, hg, ho.lt, p⟩
theorem ofR_mn {w : World} {B cols N : Nat} {s : Value} {xs : List Int} {cs : List Value} (h : Gm w B s cs) (r : OfR w s cols xs cs) (hl : cs.length = N) (hN : N ≤ 1000) : ∃ A c, s = .slice A N c ∧ Mn w A N c ((List.range N).map fun k => rowL cols k xs) 1 := by
  rcases h with ⟨rfl, rfl⟩ | ⟨g, cap, rfl, hg, ho⟩
  · have h0 : N = 0 := by simpa using hl.symm
    subst h0
    exact ⟨none, 0, rfl, rfl, Nat.le_refl _, by omega, fun h => absurd h (by omega)⟩
  · have hlt := ho.lt
    obtain ⟨cur, h1, h2, h3, h4, h5, h6, h7⟩ := ho
    subst hl
    refine ⟨_, cap, rfl, by simp, h2, by omega, fun _ => ⟨g, 0, rfl, hlt, fun k hk => ?_⟩⟩
    have hk2 : k < cs.length := by simpa using hk
    obtain ⟨g', c', e, _, _, p⟩ := r k hk2
    refine ⟨_, cols, c', ?_, by simpa using p⟩
    rw [Nat.zero_add, cell_of_row w g k cur _ (0, 0) h1, ← e]
    have := congrArg (fun l => l[k]?) h5
    simp only [List.getElem?_take, if_pos hk2] at this
    simpa [hk2] using this
set_option maxHeartbeats 4000000 in
theorem Lof_any {g n cols N : Nat} {xs : List Int} {w : World} (hx : ∀ k (hk : k < xs.length), w.cell? ⟨g, k, none⟩ = some (.int .i64 xs[k])) (hg : g < w.heap.size) (hl : xs.length = n) (hn : n ≤ 100) (hN : N * cols = n) (hc : 1 ≤ cols) (hbd : ∀ x ∈ xs, -9223372036854775808 ≤ x ∧ x ≤ 9223372036854775807) :
    Calls Tryz.prog 80 #[.int .i64 (cols : Int), .slice (some ⟨g, 0, none⟩) n n] w fun e w' => ∃ A c, e = .returned (.slice A N c) ∧ Mn w' A N c ((List.range N).map fun k => rowL cols k xs) 1 ∧ Below w.heap.size w w' := by
  have hNn : N ≤ n := by rw [← hN]; exact Nat.le_mul_of_pos_right _ hc
  have hcn : N = 0 ∨ cols ≤ n := by
    rcases Nat.eq_zero_or_pos N with h | h
    · exact .inl h
    · exact .inr (by rw [← hN]; exact Nat.le_mul_of_pos_left _ h)
  have HX := Lib.hid hx; have HL := Lib.hid hl; have HBD := Lib.hid hbd; have HN := Lib.hid hN
  clear hx hl hbd hN
  go_enter Tryz.func80, Tryz.ntmps80
  go_upto_region 2 with fail
  refine al1 fun v1 hb x_o => ?_
  have gm : Gm v1 w.heap.size (.slice (some ⟨w.heap.size, 0, none⟩) 0 0) [] := gm_new x_o (Nat.le_refl _)
  have r0 : OfR v1 (.slice (some ⟨w.heap.size, 0, none⟩) 0 0) cols xs [] := fun k hk => by cases hk
  clear x_o
  go_wp2_with fail
  go_loopw [5, 6] (fun sv kv wr => ∃ (t : Value) (wo : World) (j i : Nat) (cs : List Value), t = sv ∧ wo = wr ∧ j ≤ N ∧ Hid (j * cols = i) ∧ kv = .int .i64 (i : Int) ∧ Gm wo w.heap.size t cs ∧ cs.length = j ∧ OfR wo t cols xs cs ∧ Below w.heap.size w wo) (fun _ kv _ => n - (intOf kv).toNat)
  case atStart => exact ⟨_, _, 0, 0, [], rfl, rfl, by omega, Lib.hid (by simp), rfl, gm, rfl, r0, hb⟩
  case round =>
    clear gm r0 hb
    obtain ⟨t, wo, j, i, cs, rfl, rfl, hj, hji, rfl, gm, hcs, r, hb⟩ := hrel
    rcases (show N = j ∨ j < N by omega) with hin | hin
    · subst hin
      obtain rfl : n = i := by rw [← HN.out]; exact hji.out
      obtain ⟨A, c, rfl, p⟩ := ofR_mn gm r hcs (by omega)
      clear gm r hcs hji
      go_wp2
      go_ret
      exact ⟨A, c, rfl, p, hb⟩
    · have hi1 : (j + 1) * cols ≤ N * cols := Nat.mul_le_mul_right _ hin
      rw [Nat.add_mul, Nat.one_mul, hji.out, HN.out] at hi1
      obtain ⟨i2, hi2⟩ : ∃ i2, i + cols = i2 := ⟨_, rfl⟩
      rw [hi2] at hi1
      have hlt : i < n := by omega
      have hw : IntKind.i64.wrap ((i : Int) + cols) = (i2 : Int) := by rw [i64_keep (by omega) (by omega)]; omega
      have HI2 := Lib.hid hi2
      have hle : i ≤ i2 := by omega
      clear hi2
      go_upto_region 6 with fail
      refine al1 fun v2 hb1 x_o => ?_
      have gz0 : Gz v2 wo.heap.size 1 (.slice (some ⟨wo.heap.size, 0, none⟩) 0 0) ((xs.drop i).take (i - i)) := by rw [Nat.sub_self, List.take_zero]; exact gz_new x_o (Nat.le_refl _)
      have hBw := hb.size
      clear x_o
      go_wp2_with fail
      go_loopw [7, 8] (fun tv kv wr => ∃ k : Nat, i ≤ k ∧ k ≤ i2 ∧ kv = .int .i64 (k : Int) ∧ Gz wr wo.heap.size 1 tv ((xs.drop i).take (k - i)) ∧ Below wo.heap.size wo wr) (fun _ kv _ => i2 - (intOf kv).toNat)
      case atStart => exact ⟨i, Nat.le_refl _, hle, rfl, gz0, hb1⟩
      case round =>
        clear gz0 hb1
        obtain ⟨k, hik, hki, rfl, gz, hb1⟩ := hrel
        have hBs := hb1.size
        rcases (show i2 = k ∨ k < i2 by omega) with hk2 | hk2
        · subst hk2
          have hrow : (xs.drop i).take (i2 - i) = rowL cols j xs := by rw [rowL, hji.out, show i2 - i = cols by have := HI2.out; omega]
          rw [hrow] at gz
          have hrl : (rowL cols j xs).length = cols := by
            rw [rowL, List.length_take, List.length_drop, HL.out, hji.out]; have := HI2.out; omega
          obtain ⟨g9, c9, rfl, hg9, hl9, p9⟩ := gz.blk (by omega) (by omega)
          rw [hrl] at p9
          simp only [hrl]
          have HP := Lib.hid p9
          have hne9 : t.ownBlock ≠ some g9 := fun e => by have := (gm.lt e).2; omega
          replace gm := gm.keep hb1; replace r := r.keep hb1; replace hb := bthen hb hb1
          clear hrow gz hrl p9 hb1
          go_wp2_with (at_builtin; refine wp_pushM rfl _ _ rfl rfl gm (by omega) hb.size rfl ?_; intro s' w' hpm)
          obtain ⟨gm2, hgr, hnw⟩ := hpm
          have hsz := hgr.grown.size
          have r2 : OfR w' s' cols xs (cs ++ [.slice (some ⟨g9, 0, none⟩) cols c9]) := fun q hq => by
            have hown : ∀ x, x < wr.heap.size → t.ownBlock ≠ some x → s'.ownBlock ≠ some x := fun x hx hne e => by
              rcases hnw with e2 | ⟨y, hy, e2⟩
              · exact hne (e2.symm.trans e)
              · rw [e2] at e; injection e with e; omega
            rcases (show q < cs.length ∨ q = cs.length by simp at hq; omega) with h | h
            · obtain ⟨g8, c8, h1, h2, h3, h4⟩ := r q h
              exact ⟨g8, c8, by rw [List.getElem_append_left h]; exact h1, Nat.lt_of_lt_of_le h2 hsz, hown _ h2 h3, h4.gr0 hgr h2 h3⟩
            · subst h
              exact ⟨g9, c9, by simp, Nat.lt_of_lt_of_le hl9 hsz, hown _ hl9 hne9, by rw [hcs]; exact HP.out.gr0 hgr hl9 hne9⟩
          have hb2 := Gr.belowM hb hb.size gm hgr (Nat.le_refl _)
          go_wp2_with fail
          exact ⟨⟨s', w', j + 1, i2, _, rfl, rfl, by omega, Lib.hid (by rw [Nat.add_mul, Nat.one_mul, hji.out]; exact HI2.out), by go_num, gm2, by simp [hcs], r2, hb2⟩, by have := HI2.out; simp [intOf]; omega⟩
        · have hil : k < xs.length := by rw [HL.out]; omega
          have hc := ((bthen hb hb1).cell (p := ⟨g, k, none⟩) hg).trans (HX.out k hil)
          have hxb := HBD.out _ (List.getElem_mem hil)
          have htk : Hid ((xs.drop i).take (k - i) ++ [xs[k]] = (xs.drop i).take (k + 1 - i)) := Lib.hid (by
            rw [show k + 1 - i = k - i + 1 by omega, List.take_add_one, List.getElem?_drop, show i + (k - i) = k by omega, List.getElem?_eq_getElem hil]; rfl)
          have hln : ((xs.drop i).take (k - i)).length ≤ 1000 := by rw [List.length_take]; omega
          generalize xs[k] = X at *
          generalize (xs.drop i).take (k - i) = l at *
          have hkn : k < n := by omega
          go_wp2_with fail
          with_reducible refine (ROf_any X hxb.1 hxb.2).mono ?_
          rintro e v4 ⟨A2, n2, c2, rfl, z, hb2⟩
          replace gz := gz.keep hb2
          replace hb1 := bthen hb1 hb2
          have hBs2 := hb1.size
          clear hb2 hc hBs
          go_wp2_with (at_builtin; refine wp_pushGI (V := v4) rfl _ _ rfl rfl gz hln hBs2 z rfl ?_; intro s' w' hpu)
          have hgz := hpu.1
          rw [htk.out] at hgz
          have hb3 := Gr.below hb1 hBs2 gz hpu.2.1 (Nat.le_refl _)
          exact ⟨⟨k + 1, by omega, by omega, by go_num, hgz, hb3⟩, by simp [intOf]; omega⟩
end Go.Proofs.YtbpamkpclofnbaaGreat
namespace Go.Proofs.YtbpamkpclofnbaaGreat
open Go.RowKit
open MP.Se (nf co)
set_option linter.unusedVariables false
set_option maxRecDepth 100000

theorem PDegree_any {A : Option Addr} {n c J : Nat} {l : List Int} {w : World} (h : Pd w w.heap.size A n c l J) (hJ : J ≤ 1000000) :
    Calls Tryz.prog 55 #[.slice A n c] w fun e w' => e = .returned (.int .i64 (((nf l).length : Int) - 1)) ∧ Below w.heap.size w w' := by
  have hbig := h.big
  have hl := h.len
  have hle := MP.Se.nf_len l
  obtain ⟨M, hM⟩ : ∃ M, (nf l).length = M := ⟨_, rfl⟩
  rw [hM] at hle ⊢
  go_enter Tryz.func55, Tryz.ntmps55
  go_wp2_with fail
  with_reducible refine (Ptrim_any h hJ).mono ?_
  rintro e v1 ⟨A1, m, c1, rfl, hm, ht, hb⟩
  obtain rfl : m = M := hm.trans hM
  clear hm hM ht h
  go_wp2
  go_ret
  exact ⟨rfl, hb⟩
end Go.Proofs.YtbpamkpclofnbaaGreat
namespace Go.Proofs.YtbpamkpclofnbaaGreat
open Go.RowKit
open MP.Se (nf co)
set_option linter.unusedVariables false
set_option maxRecDepth 100000

/-- A coefficient; 0 beyond the ends. -/
def cfI (l : List Int) (i : Int) : Int := if i < 0 then 0 else l.getD i.toNat 0
theorem Mcoefficient_any {w : World} {n c J : Nat} {A : Option Addr} {l : List Int} {i : Int} (h : Pd w w.heap.size A n c l J) (hJ : J ≤ 1000000) :
    Calls Tryz.prog 101 #[.slice A n c, .int .i64 i] w (OutZ w (cfI l i) J) := by
  have hl := h.len
  by_cases hi : 0 ≤ i ∧ i < (n : Int)
  · obtain ⟨k, rfl⟩ : ∃ k : Nat, i = k := ⟨i.toNat, by omega⟩
    have hk : k < n := by omega
    have hp : Pe w w.heap.size A n c l J := ⟨Nat.le_refl _, h⟩
    obtain ⟨d3, o3, b7, A7, n7, c7, rfl, hd3, x_e, z7⟩ := hp.ec hk
    have e : cfI l (k : Int) = l[k] := by
      have : k < l.length := by omega
      simp [cfI, List.getD, this]; omega
    rw [e]
    generalize l[k] = Y at *
    have h1 : ((k : Int) < 0) = False := by simp
    clear e h hp hl
    go_enter Tryz.func101, Tryz.ntmps101
    have hb := Below.refl w.heap.size w
    go_upto_region 1 with fail
    refine al1 fun v1 hb x_r => ?_
    replace x_r := Bx.of x_r
    obtain ⟨x_e, z7⟩ := mv2 hb x_e z7
    have q_r := x_r.al
    have q_e := x_e.al
    go_wp2_with fail
    with_reducible refine (ZNorm_any z7 J (Nat.le_refl _)).mono ?_
    rintro e v2 ⟨A8, n8, c8, rfl, z8, hb1⟩
    obtain ⟨x_r, hb⟩ := mv2 hb1 x_r hb
    clear hb1 q_r q_e
    have q_r := x_r.al
    go_wp2
    refine x_r.st fun v3 hs hx => ?_
    have q_x := hx.al
    have hb2 : Below w.heap.size w v3 := ms1 hs (Nat.le_refl _) hb
    have z9 : Zn v3 A8 n8 c8 Y J := Ms.ms hs trivial z8
    refine bodyPost_ret (v := .agg #[.bool (ngB Y), .slice A8 n8 c8]) (by simp [results, Tryz.results101, go_sem, q_x]) rfl ?_
    exact ⟨_, _, _, rfl, z9, hb2⟩
  · have e : cfI l i = 0 := by
      unfold cfI
      split
      · rfl
      · simp [List.getD, show l.length ≤ i.toNat by omega]
    rw [e]
    clear e h
    rcases (show i < 0 ∨ (0 ≤ i ∧ (n : Int) ≤ i) by omega) with h1 | h1
    all_goals
      go_enter Tryz.func101, Tryz.ntmps101
      go_upto_region 1 with fail
      refine al1 fun v1 hb x_r => ?_
      replace x_r := Bx.of x_r
      have q_r := x_r.al
      go_wp2
      refine x_r.st fun v3 hs hx => ?_
      have q_x := hx.al
      have hb2 : Below w.heap.size w v3 := ms1 hs (Nat.le_refl _) hb
      refine bodyPost_ret (v := .agg #[.bool false, .slice none 0 0]) (by simp [results, Tryz.results101, go_sem, q_x]) rfl ?_
      exact ⟨_, _, _, rfl, zn_nil0 _ _, hb2⟩
theorem MbothOdd_any {w : World} {n c n2 c2 : Nat} {A A2 : Option Addr} :
    Calls Tryz.prog 104 #[.slice A n c, .slice A2 n2 c2] w fun e w' => e = .returned (.bool (decide (n % 2 = 0 ∧ n2 % 2 = 0))) ∧ Below w.heap.size w w' := by
  have h1 : ((n : Int) % 2 == 0) = decide (n % 2 = 0) := by rcases Nat.mod_two_eq_zero_or_one n with h | h <;> simp [h] <;> omega
  have h2 : ((n2 : Int) % 2 == 0) = decide (n2 % 2 = 0) := by rcases Nat.mod_two_eq_zero_or_one n2 with h | h <;> simp [h] <;> omega
  obtain ⟨β1, hβ1⟩ : ∃ β, decide (n % 2 = 0) = β := ⟨_, rfl⟩
  obtain ⟨β2, hβ2⟩ : ∃ β, decide (n2 % 2 = 0) = β := ⟨_, rfl⟩
  have e : decide (n % 2 = 0 ∧ n2 % 2 = 0) = (β1 && β2) := by rw [← hβ1, ← hβ2]; simp
  rw [e]
  rw [hβ1] at h1; rw [hβ2] at h2
  clear e hβ1 hβ2
  have hb := Below.refl w.heap.size w
  cases β1
  all_goals
    go_enter Tryz.func104, Tryz.ntmps104
    go_wp2
    go_ret
    exact ⟨by simp [*], hb⟩
theorem pow_two_mul (X : Int) (k : Nat) : X ^ k * X ^ k = X ^ (2 * k) := by rw [← Int.pow_add]; congr 1; omega
set_option maxHeartbeats 2000000 in
theorem Mpower_any (n : Nat) : ∀ {w : World} {b : Bool} {A : Option Addr} {na c J K : Nat} {X : Int}, Zr w b A na c X J → 1 ≤ K → n * (J + 2) ≤ K → K ≤ 900000 → n ≤ 100000 →
    Calls Tryz.prog 106 #[.agg #[.bool b, .slice A na c], .int .i64 (n : Int)] w (OutZ w (X ^ n) K) := by
  induction n using Nat.strongRecOn with
  | ind n ih =>
    intro w b A na c J K X z hK1 hK hK2 hn
    have IH := Lib.hid ih
    clear ih
    go_enter Tryz.func106, Tryz.ntmps106
    go_upto_region 1 with fail
    refine al2 fun v1 hb x_a x_r => ?_
    replace x_a := Bx.of x_a; replace x_r := Bx.of x_r
    obtain ⟨z, _⟩ := mv2 hb z z
    have q_a := x_a.al; have q_r := x_r.al
    rcases Nat.eq_zero_or_pos n with h0 | h0
    · subst h0
      clear IH z
      go_wp2_with fail
      with_reducible refine (ZOf_any 1 (by omega) (by omega)).mono ?_
      rintro e v2 ⟨A8, n8, c8, rfl, z8, hb1⟩
      obtain ⟨x_r, hb⟩ := mv2 hb1 x_r hb
      clear hb1 q_a q_r x_a
      have q_r := x_r.al
      go_wp2
      refine x_r.st fun v3 hs hx => ?_
      have q_x := hx.al
      have hb2 : Below w.heap.size w v3 := ms1 hs (by omega) hb
      have z9 : Zn v3 A8 n8 c8 1 1 := Ms.ms hs trivial z8
      refine bodyPost_ret (v := .agg #[.bool (ngB (X ^ 0)), .slice A8 n8 c8]) (by simp [results, Tryz.results106, go_sem, q_x, Int.pow_zero]) rfl ?_
      exact ⟨_, _, _, rfl, by rw [Int.pow_zero]; exact z9.kto hK1, hb2⟩
    · have hq : IntKind.i64.wrap ((n : Int).tdiv 2) = ((n / 2 : Nat) : Int) := by
        rw [Int.tdiv_eq_ediv_of_nonneg (by omega), i64_keep (by omega) (by omega)]; omega
      have hq2 : IntKind.i64.wrap ((n : Int) / 2) = ((n / 2 : Nat) : Int) := by
        rw [i64_keep (by omega) (by omega)]; omega
      have hne : ((n : Int) == 0) = false := by simp; omega
      obtain ⟨k, hk⟩ : ∃ k, n / 2 = k := ⟨_, rfl⟩
      rw [hk] at hq hq2
      have hkn : k < n := by omega
      obtain ⟨T, hT⟩ : ∃ T, max 1 (k * (J + 2)) = T := ⟨_, rfl⟩
      have hT1 : 1 ≤ T := by omega
      have hT2 : k * (J + 2) ≤ T := by omega
      have hr : n = 2 * k + n % 2 := by omega
      have hTT : T + T + (n % 2) * J ≤ K := by
        have e : n * (J + 2) = 2 * (k * (J + 2)) + (n % 2) * (J + 2) := by conv => { lhs; rw [hr] }; rw [Nat.add_mul, Nat.mul_assoc]
        rcases Nat.mod_two_eq_zero_or_one n with h | h
        · have : 1 ≤ k := by omega
          have : 1 * (J + 2) ≤ k * (J + 2) := Nat.mul_le_mul_right _ this
          rw [h] at e ⊢; rw [Nat.one_mul] at this; omega
        · rcases Nat.eq_zero_or_pos k with h1 | h1
          · subst h1; rw [h] at e ⊢; omega
          · have : 1 * (J + 2) ≤ k * (J + 2) := Nat.mul_le_mul_right _ h1
            rw [h] at e ⊢; rw [Nat.one_mul] at this; omega
      have HTT := Lib.hid hTT; have HR := Lib.hid hr
      clear hT hr hTT
      go_wp2_with fail
      with_reducible refine (IH.out k hkn z hT1 hT2 (by have := Nat.le_trans (Nat.le_add_right _ _) HTT.out; omega) (by omega)).mono ?_
      rintro e v2 ⟨A5, n5, c5, rfl, z5, hb1⟩
      obtain ⟨x_a, x_r, z, hb⟩ := mv4 hb1 x_a x_r z hb
      clear hb1 q_a q_r IH
      have hs2 := hb.size
      go_upto_region 4 with fail
      refine al1 fun v3 hb1 x_h => ?_
      replace x_h := Bx.of x_h
      obtain ⟨x_a, x_r, z, z5, hb⟩ := mv5 hb1 x_a x_r z z5 hb
      clear hb1
      have q_h := x_h.al
      go_wp2_with fail
      with_reducible refine (ZMul_any z5.zr z5.zr (T + T) (Nat.le_refl _) (by have := Nat.le_trans (Nat.le_add_right _ _) HTT.out; omega)).mono ?_
      rintro e v4 ⟨A6, n6, c6, rfl, z6, hb1⟩
      obtain ⟨x_a, x_r, z, hb⟩ := mv4 hb1 x_a x_r z hb
      rw [pow_two_mul] at z6 ⊢
      clear hb1 q_h x_h z5
      have hs3 := hb.size; have hl3 := x_r.lt
      go_upto_region 5 with fail
      refine al1 fun v5 hb1 x_o => ?_
      replace x_o := Bx.of x_o
      obtain ⟨x_a, x_r, z, z6, hb⟩ := mv5 hb1 x_a x_r z z6 hb
      have hs5 := hb.size
      have hs4 := hb1.size
      have hl4 := x_r.lt
      clear hb1
      have q_a := x_a.al; have q_o := x_o.al; have q_r := x_r.al
      rcases Nat.mod_two_eq_zero_or_one n with h | h
      · have h2 : ((n : Int) % 2 == 1) = false := by simp; omega
        have h3 : Hid (2 * k = n) := Lib.hid (by have := HR.out; omega)
        have HK : Hid (T + T ≤ K) := Lib.hid (Nat.le_trans (Nat.le_add_right _ _) HTT.out)
        clear h
        go_wp2
        refine x_r.st fun v6 hs hx => ?_
        have q_x := hx.al
        have hb2 : Below w.heap.size w v6 := ms1 hs (by omega) hb
        have z9 : Zn v6 A6 n6 c6 (X ^ n) K := by rw [h3.out] at z6; exact (Ms.ms hs trivial z6 : Zn v6 A6 n6 c6 (X ^ n) (T + T)).kto HK.out
        rw [h3.out] at q_x
        refine bodyPost_ret (v := .agg #[.bool (ngB (X ^ n)), .slice A6 n6 c6]) (by simp [results, Tryz.results106, go_sem, q_x]) rfl ?_
        exact ⟨_, _, _, rfl, z9, hb2⟩
      · have h2 : ((n : Int) % 2 == 1) = true := by simp; omega
        have h3 : Hid (X ^ (2 * k) * X = X ^ n) := Lib.hid (by have := HR.out; rw [← Int.pow_succ]; congr 1; omega)
        have HK : Hid (T + T + J ≤ K) := Lib.hid (by have := HTT.out; rw [h, Nat.one_mul] at this; exact this)
        clear h
        go_wp2_with fail
        with_reducible refine (ZMul_any z6.zr z K HK.out (by omega)).mono ?_
        rintro e v6 ⟨A7, n7, c7, rfl, z7, hb1⟩
        rw [h3.out] at z7 ⊢
        obtain ⟨x_r, x_o, hb⟩ := mv3 hb1 x_r x_o hb
        have hs6 := hb1.size
        have hl6 := x_o.lt
        clear hb1 q_a q_o q_r z6
        have q_r := x_r.al; have q_o := x_o.al
        go_upto_region 7 with fail
        refine x_o.st fun v7 hs x_o => ?_
        obtain ⟨x_r, z7, hb⟩ : Bx v7 (w.heap.size + 1) false none 0 0 ∧ Zn v7 A7 n7 c7 (X ^ n) K ∧ Below w.heap.size w v7 := ⟨Ms.ms hs (by omega) x_r, Ms.ms hs trivial z7, ms1 hs (by omega) hb⟩
        clear hs q_r q_o
        have q_r := x_r.al; have q_o := x_o.al
        go_wp2
        refine x_r.st fun v8 hs hx => ?_
        have q_x := hx.al
        have hb2 : Below w.heap.size w v8 := ms1 hs (by omega) hb
        have z9 : Zn v8 A7 n7 c7 (X ^ n) K := Ms.ms hs trivial z7
        refine bodyPost_ret (v := .agg #[.bool (ngB (X ^ n)), .slice A7 n7 c7]) (by simp [results, Tryz.results106, go_sem, q_x]) rfl ?_
        exact ⟨_, _, _, rfl, z9, hb2⟩
