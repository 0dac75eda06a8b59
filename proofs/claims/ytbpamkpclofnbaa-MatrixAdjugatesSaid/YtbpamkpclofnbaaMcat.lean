/-
  slices.Grow, slices.Concat of two slices of rows.
-/
import Derived.Test.YtbpamkpclofnbaaMidx
namespace Go.Proofs.Ytbpamkpclofnbaa
open Go.RowKit
open MP.Se (nf co)
set_option linter.unusedVariables false
set_option maxRecDepth 100000

theorem Ev.sto {W v : World} {g d p n cap m cm nn c J q : Nat} {D C : Nat → Nat} {T : Nat → Nat → Int} {pr : List Int} {s : Int} {b o : Bool} {A : Option Addr} (h : Ev W g d p D C n cap m cm T pr s b A nn c o J) (hg : g ≠ q) (hd : d ≠ q) (hp : p ≠ q) (hD : ∀ i, i < n → D i ≠ q) (st : Sto W q v) : Ev v g d p D C n cap m cm T pr s b A nn c o J :=
  ⟨h.e.sto hg st, h.y.to (st.block _ hd), h.i.sto hp st, fun a ha => (h.r a ha).sto (hD a ha) st⟩
/-- The first m numbers f. -/
def lsN (m : Nat) (f : Nat → Int) : List Int := (List.range m).map f
theorem lsN_len (m : Nat) (f : Nat → Int) : (lsN m f).length = m := by simp [lsN]
theorem lsN_at {m k : Nat} {f : Nat → Int} (h : k < (lsN m f).length) : (lsN m f)[k] = f k := by simp [lsN]
theorem lsN_getD {m k : Nat} {f : Nat → Int} (h : k < m) : (lsN m f).getD k 0 = f k := by simp [lsN, List.getD, h]
theorem ent_cro1 : ∀ (args : Array Value) (w : World), (callFunc 63 args).run Try.prog w = .ok (.enter 63 args) w := enters_of Try.func63 (by kernel_rfl) rfl
set_option maxHeartbeats 8000000 in
theorem Mcross_any {w : World} {B n m c J : Nat} {A : Option Addr} {M : List (List Int)} (h : Me w B A n c M J) (hm : m = n + 1) (hr : ∀ k (hk : k < M.length), M[k].length = m) (hn1 : 1 ≤ n) (hn : n ≤ 1000) (hJ : 1 ≤ J) (hK : kb J n ≤ 900000) :
    Calls Try.prog 35 #[.slice A n c] w (OutP w (lsN m (crs n (mx M))) (kb J n)) := by
  have HR := Lib.hid hr
  have hl := h.len
  have hw : IntKind.i64.wrap ((n : Int) + 1) = (m : Int) := by rw [i64_keep (by omega) (by omega)]; omega
  obtain ⟨L, hL⟩ : ∃ L, lsN m (crs n (mx M)) = L := ⟨_, rfl⟩
  rw [hL]
  have HL := Lib.hid hL; have HM := Lib.hid hm
  have hm1 : 1 ≤ m := by omega
  have hm2 : m ≤ 1001 := by omega
  clear hr hL hm
  go_enter Try.func35, Try.ntmps35
  go_wp2_with (at_make; refine wp_makeR rfl _ _ rfl m (kb J n) _ _ rfl rfl rfl rfl (by omega) ?_; intro v1 p_o hb)
  replace h := h.keep hb
  have hwo : w.heap.size < v1.heap.size := p_o.lt
  with_reducible refine (Mbegin_any h HR.out hn1 hn hm1 (by omega) hJ).mono ?_
  rintro e v2 ⟨g, d, p, D, C, cap, cm, b, A1, nn, cc, rfl, N, ev, z, ⟨hg, hd, hp, hD⟩, hb1⟩
  have HN := Lib.hid N; have HD := Lib.hid hD
  have hgl := ev.e.lt; have hdl := ev.y.lt; have hpl := ev.i.lt
  have HDl : Hid (∀ i, i < n → D i < v2.heap.size) := Lib.hid fun i hi => (ev.r i hi).lt
  obtain ⟨p_o, hb⟩ := mv2 hb1 p_o hb
  clear N hD h hb1
  go_wp2_with fail
  refine al1c fun v3 hb1 x => ?_
  have x_e := Vc.of x
  obtain ⟨ev, z, p_o, hb⟩ := mv4 hb1 ev z p_o hb
  have hs2 := hb1.size
  clear x hb1
  have hR : Hid (∀ (v : World) (i s : Nat) (b : Bool) (A : Option Addr) (nn c : Nat) (o : Bool), i < n → Fz (Trn g d p D n) v3 v → Eb v g (some ⟨d, 0, none⟩) (some ⟨p, 0, none⟩) n cap m cm (s : Int) b A nn c o →
      Calls Try.prog 63 (#[.int .i64 (i : Int)] ++ #[.pointer (some ⟨v2.heap.size, 0, none⟩)]) v fun e w' => e = .returned (.bool (rho true s i)) ∧ Below v.heap.size v w') :=
    Lib.hid fun v i s b A nn c o hi hf he => (Mcro1_any (x_e.via hf (by rintro (h | h | h | ⟨j, hj, h⟩); omega; omega; omega; have := HDl.out j hj; omega)) he).mono fun e w' h => by
      obtain ⟨h1, h2⟩ := h
      refine ⟨h1.trans ?_, h2⟩
      have : ((i : Int) == (s : Int)) = decide (i = s) := by
        by_cases e : i = s
        · simp [e]
        · simp [e]; omega
      rw [this]; rfl
  refine (Mrun_any (ful := true) (gaps := 1) HN.out ev z hK hn (by omega) (by omega) ent_cro1 hR.out).mono ?_
  rintro e v4 ⟨rfl, D', C', B', o', s', c', X', gg, T, pr, col, gp, b', A', nn', cc', N', hDD, ev', z', rg, hcol, hf⟩
  have x_e4 := x_e.via hf (by rintro (h | h | h | ⟨j, hj, h⟩); omega; omega; omega; have := HDl.out j hj; omega)
  have hb4 := hb.trans (hf.belowOf hb.size (by rintro x (h | h | h | ⟨j, hj, h⟩); omega; omega; omega; have := HD.out j hj; omega))
  have p_o4 := p_o.via hf (by rintro (h | h | h | ⟨j, hj, h⟩); omega; omega; omega; have := HD.out j hj; omega)
  clear p_o x_e ev z hb hf hR
  have q_e := x_e4.al; have q2 := ev'.e.c2
  have hsn := rg.sn
  rcases (show s' < n ∨ n = s' by omega) with hs | hs
  · have hz : List.replicate m 0 = L := by
      rw [← HL.out]
      refine List.ext_getElem (by simp [lsN_len]) fun k h1 h2 => ?_
      rw [lsN_at, List.getElem_replicate]
      rw [lsN_len] at h2
      have r := rg
      rw [HM.out] at r
      exact (r.crs_zero (by have := rg.ct; have := HM.out; omega) (by have := HM.out; omega)).symm
    rw [hz] at p_o4
    have hp2 := p_o4.po (B := w.heap.size) (Nat.le_refl _)
    have hlL : L.length = m := by rw [← hz]; simp
    rw [hlL] at hp2
    have HP := Lib.hid hp2; have HB := Lib.hid hb4
    clear hz hp2 hlL p_o4 hb4 rg hcol N' ev' z'
    go_wp2
    go_ret
    exact ⟨_, _, _, rfl, HP.out, HB.out⟩
  · subst hs
    have HC : Hid (∃ j, j < m ∧ pr.getD j 0 = -1 ∧ (∀ i, i < m → i ≠ j → ∃ u, u < n ∧ pr.getD i 0 = (u : Int) ∧ crs n (mx M) i = -(MD.sg j * sgo o' * T u j)) ∧ crs n (mx M) j = MD.sg j * sgo o' * X' ∧ (∀ i, i < j → pr.getD i 0 ≠ -1)) :=
      Lib.hid (by have r := rg; rw [HM.out] at r ⊢; exact r.crs_full (by have := rg.ct; have := HM.out; omega))
    have hlp := rg.len
    obtain ⟨j, hj, hpj, hoth, hjX, hfst⟩ := HC.out
    have HO := Lib.hid hoth; have HX := Lib.hid hjX; have HF := Lib.hid hfst; have HJ := Lib.hid hpj; have HLP := Lib.hid hlp; have HN' := Lib.hid N'
    have q1 := ev'.e.c1
    clear hoth hjX hfst hpj hcol N' HC rg hlp
    go_wp2_with fail
    with_reducible refine (Sindex_any ev'.i HLP.out hj (by omega) HJ.out HF.out).mono ?_
    rintro e v5 ⟨rfl, hb1⟩
    obtain ⟨ev, z, p_o, x_e, hb⟩ := mv5 hb1 ev' z' p_o4 x_e4 hb4
    clear ev' z' p_o4 x_e4 hb4 hb1 q1 q2 q_e
    have q_e := x_e.al; have q5 := ev.e.c5; have q1 := ev.e.c1
    obtain ⟨ng, hng⟩ : ∃ β, (!o' == ((j : Int) % 2 == 1)) = β := ⟨_, rfl⟩
    have HNG : Hid (∀ Y : Int, (if ng then -Y else Y) = MD.sg j * sgo o' * Y) := Lib.hid fun Y => by
      rw [← hng]
      unfold MD.sg sgo
      rcases Nat.mod_two_eq_zero_or_one j with h | h
      · have : (j : Int) % 2 = 0 := by omega
        cases o' <;> simp [h, this]
      · have : (j : Int) % 2 = 1 := by omega
        cases o' <;> simp [h, this]
    have HDp : Hid (∀ i, i < n → D' i ≠ w.heap.size) := Lib.hid fun i hi e => by obtain ⟨k, hk, e2⟩ := hDD i hi; have := HD.out k hk; omega
    clear hDD
    have hge : v2.heap.size ≠ w.heap.size := by omega
    have hgo : g ≠ w.heap.size := by omega
    have hdo : d ≠ w.heap.size := by omega
    have hpo : p ≠ w.heap.size := by omega
    have hr0 : ∃ L1, Pw v5 w.heap.size L1 (kb J n) ∧ L1.length = m ∧ ∀ k, k < 0 → L1.getD k 0 = crs n (mx M) k := ⟨_, p_o, by simp, fun k hk => by omega⟩
    clear p_o
    go_wp2_with fail
    go_loopw [46] (fun kv wr => ∃ i : Nat, i ≤ m ∧ kv = .int .i64 (i : Int) ∧ (∃ L1, Pw wr w.heap.size L1 (kb J n) ∧ L1.length = m ∧ ∀ k, k < i → L1.getD k 0 = crs n (mx M) k) ∧ Ev wr g d p D' C' n cap m cm T pr ((n : Nat) : Int) b' A' nn' cc' o' (kb J n) ∧ Zr wr b' A' nn' cc' X' (kb J n) ∧ Vc wr v2.heap.size 0 (.pointer (some ⟨g, 0, none⟩)) ∧ Below w.heap.size w wr) (fun kv _ => m - (intOf kv).toNat)
    case atStart => exact ⟨0, by omega, rfl, hr0, ev, z, x_e, hb⟩
    case round =>
      clear hr0 ev z x_e hb q_e q5 q1
      obtain ⟨i, hi, rfl, ⟨L1, p_o, hL1, hL2⟩, ev, z, x_e, hb⟩ := hrel
      have HL1 := Lib.hid hL1; have HL2 := Lib.hid hL2
      clear hL1 hL2
      rcases (show m = i ∨ i < m by omega) with him | him
      · subst him
        have hLe : L1 = L := by
          rw [← HL.out]
          refine List.ext_getElem (by rw [lsN_len]; exact HL1.out) fun k h1 h2 => ?_
          rw [lsN_at, ← HL2.out k (by rw [← HL1.out]; exact h1)]
          simp [List.getD, h1]
        subst hLe
        have hp2 := p_o.po (B := w.heap.size) (Nat.le_refl _)
        rw [HL1.out] at hp2
        have HP := Lib.hid hp2
        clear hp2 p_o ev z x_e
        go_wp2
        go_ret
        exact ⟨_, _, _, rfl, HP.out, hb⟩
      · have hil : i < pr.length := by rw [HLP.out]; exact him
        have q_i := (ev.i.at_ hil).al
        have hpe : pr[i] = pr.getD i 0 := by simp [List.getD, hil]
        rw [hpe] at q_i
        clear hpe
        have hiL : i < L1.length := by rw [HL1.out]; exact him
        obtain ⟨At, nt, ct, x_t, _⟩ := p_o.ec hiL
        have q_t := x_t.al; have f_t := And.intro (p_o.fr (i * 2)) (p_o.fr (i * 2 + 1))
        have q_e := x_e.al
        have HY : Hid (∀ k, k < i + 1 → (L1.set i (crs n (mx M) i)).getD k 0 = crs n (mx M) k) := Lib.hid fun k hk => by
          rw [set_getD hiL]
          split
          · next e => rw [e]
          · exact HL2.out k (by omega)
        by_cases hij : i = j
        · subst hij
          rw [HJ.out] at q_i
          have hv : (if ng then -X' else X') = crs n (mx M) i := by rw [HNG.out, HX.out]
          have HV := Lib.hid hv
          have q3 := ev.e.c3; have q4 := ev.e.c4
          clear hv
          go_wp2_with fail
          with_reducible refine (Msigned_any (β := ng) z (by omega)).mono ?_
          rintro e v6 ⟨A6, n6, c6, rfl, z6, hb1⟩
          rw [HV.out] at z6 ⊢
          obtain ⟨ev, z, x_e, p_o, x_t, hb⟩ := mv6 hb1 ev z x_e p_o x_t hb
          replace q_t := x_t.al; replace f_t := And.intro (p_o.fr (i * 2)) (p_o.fr (i * 2 + 1))
          clear q_e q_i hb1 q3 q4
          generalize crs n (mx M) i = Y at *
          go_wp2_with fail
          obtain ⟨hs, hx⟩ := p_o.set (k := i) hiL z6
          exact ⟨⟨i + 1, by omega, by go_num, ⟨_, hx, by rw [List.length_set]; exact HL1.out, HY.out⟩, ev.sto hgo hdo hpo HDp.out hs, Ms.ms hs trivial z, x_e.sto hge hs, ms1 hs (Nat.le_refl _) hb⟩, by simp [intOf]; omega⟩
        · obtain ⟨u, hu, hpu, hcu⟩ := HO.out i him hij
          rw [hpu] at q_i
          have hv : (if !ng then -(T u j) else T u j) = crs n (mx M) i := by
            rw [hcu, ← HNG.out]
            cases ng <;> simp
          have HV := Lib.hid hv
          obtain ⟨b8, A8, n8, c8, x_el, z_el⟩ := ev.el hu hj
          have q0 := ev.e.c0; have q_r := ev.row hu; have q_el := x_el.al
          have hne : ((i : Int) == (j : Int)) = false := by simpa using fun e => hij (by omega)
          clear hv hpu hcu
          go_wp2_with fail
          with_reducible refine (Msigned_any (β := !ng) z_el (by omega)).mono ?_
          rintro e v6 ⟨A6, n6, c6, rfl, z6, hb1⟩
          rw [HV.out] at z6 ⊢
          obtain ⟨ev, z, x_e, p_o, x_t, hb⟩ := mv6 hb1 ev z x_e p_o x_t hb
          replace q_t := x_t.al; replace f_t := And.intro (p_o.fr (i * 2)) (p_o.fr (i * 2 + 1))
          clear q_e q_i hb1 q0 q_r q_el x_el z_el
          generalize crs n (mx M) i = Y at *
          go_wp2_with fail
          obtain ⟨hs, hx⟩ := p_o.set (k := i) hiL z6
          exact ⟨⟨i + 1, by omega, by go_num, ⟨_, hx, by rw [List.length_set]; exact HL1.out, HY.out⟩, ev.sto hgo hdo hpo HDp.out hs, Ms.ms hs trivial z, x_e.sto hge hs, ms1 hs (Nat.le_refl _) hb⟩, by simp [intOf]; omega⟩
end Go.Proofs.Ytbpamkpclofnbaa
namespace Go.Proofs.Ytbpamkpclofnbaa
open Go.RowKit
open MP.Se (nf co)
set_option linter.unusedVariables false
set_option maxRecDepth 100000

/-- A new elimination of no rows. -/
def Bg0P (w : World) (e : Ending) (w' : World) : Prop := ∃ g p b A1 nn cc, e = .returned (.pointer (some ⟨g, 0, none⟩)) ∧ Eb w' g none (some ⟨p, 0, none⟩) 0 0 1 1 0 b A1 nn cc false ∧ Bi w' p [-1] ∧ Zr w' b A1 nn cc 1 1 ∧ (w.heap.size ≤ g ∧ w.heap.size ≤ p ∧ g ≠ p) ∧ Below w.heap.size w w'
theorem Mbegin0_any {w : World} : Calls Try.prog 55 #[.slice none 0 0, .int .i64 1] w (Bg0P w) := by
  go_enter Try.func55, Try.ntmps55
  go_wp2_with fail
  with_reducible refine (ZOf_any 1 (by omega) (by omega)).mono ?_
  rintro e v1 ⟨A9, n9, c9, rfl, z9, hb⟩
  go_wp2_with fail
  refine al1c fun v2 hb1 x => ?_
  have x_i := Bi.one x
  obtain ⟨z9, hb⟩ := mv2 hb1 z9 hb
  clear hb1 x
  refine (Srepeat_any (n := 1) x_i (by omega) (by omega)).mono ?_
  rintro e v3 ⟨p, rfl, hp, x_p, hb1⟩
  replace hp : w.heap.size ≤ p := Nat.le_trans hb.size hp
  obtain ⟨z9, hb⟩ := mv2 hb1 z9 hb
  clear hb1 x_i
  go_upto_region 2 with fail
  have hgb := hb.size
  refine al1 fun v4 hb1 x => ?_
  have x_e : Eb v4 v3.heap.size none (some ⟨p, 0, none⟩) 0 0 1 1 0 (ngB 1) A9 n9 c9 false := x
  have hpl := x_p.lt
  obtain ⟨z9, x_p, hb⟩ := mv3 hb1 z9 x_p hb
  clear hb1 x
  go_wp2_with fail
  have hw0 : v4 = v4 := rfl
  go_loopw [16] (fun kv wr => kv = .int .i64 0 ∧ wr = v4) (fun _ _ => 0)
  case atStart => exact ⟨rfl, rfl⟩
  case round =>
  obtain ⟨rfl, rfl⟩ := hrel
  go_wp2
  go_ret
  exact ⟨_, p, _, A9, n9, c9, rfl, x_e, x_p, z9.zr, ⟨hgb, hp, by omega⟩, hb⟩
theorem Mrun0_any {w : World} {g p nn cc fR : Nat} {b : Bool} {A : Option Addr} {cR : Array Value} (he : Eb w g none (some ⟨p, 0, none⟩) 0 0 1 1 0 b A nn cc false) (hi : Bi w p [-1]) :
    Calls Try.prog 56 #[.pointer (some ⟨g, 0, none⟩), .int .i64 1, .func (.func fR) #[] cR] w fun e w' => e = .returned (.tuple #[]) ∧ Below w.heap.size w w' := by
  have hgl := he.lt
  go_enter Try.func56, Try.ntmps56
  go_upto_region 1 with fail
  refine al1 fun v1 hb x_e => ?_
  replace x_e := Vc.of x_e
  replace he := he.keep hb
  have q_e := x_e.al; have q0 := he.c0; have q1 := he.c1; have q2 := he.c2
  go_wp2_with fail
  go_step3
  go_wp2_with fail
  go_step3
  go_wp2_with fail
  go_loopg [15, 1] 1 (fun gh kv gv wr => ((gh = 1 ∧ kv = .int .i64 0 ∧ gv = .int .i64 1) ∨ (gh = 0 ∧ kv = .int .i64 1 ∧ gv = .int .i64 0)) ∧ Eb wr g none (some ⟨p, 0, none⟩) 0 0 1 1 0 b A nn cc false ∧ Vc wr w.heap.size 0 (.pointer (some ⟨g, 0, none⟩)) ∧ Below w.heap.size w wr)
  case atStart => exact ⟨.inl ⟨rfl, rfl, rfl⟩, he, x_e, hb⟩
  case round =>
    clear he x_e hb q_e q0 q1 q2
    obtain ⟨hc, he, x_e, hb⟩ := hrel
    rcases hc with ⟨rfl, rfl, rfl⟩ | ⟨rfl, rfl, rfl⟩
    · have q_e := x_e.al; have q0 := he.c0; have q2 := he.c2
      go_wp2_with fail
      go_loopg [8] 0 (fun gi rv wx => rv = .int .i64 0 ∧ Eb wx g none (some ⟨p, 0, none⟩) 0 0 1 1 0 b A nn cc false ∧ Vc wx w.heap.size 0 (.pointer (some ⟨g, 0, none⟩)) ∧ Below w.heap.size w wx)
      case atStart => exact ⟨rfl, he, x_e, hb⟩
      case round =>
        clear he x_e hb q_e q0 q2
        obtain ⟨rfl, he, x_e, hb⟩ := hrel
        have q_e := x_e.al; have q0 := he.c0
        go_wp2_with fail
        go_roundg 0
        case measure => omega
        case rel => exact ⟨.inr ⟨rfl, rfl, rfl⟩, he, x_e, hb⟩
    · go_wp2_with fail
      simp only [Exit.noGoto]
      go_end0
      exact ⟨rfl, hb⟩
theorem Mcross0_any {w : World} : Calls Try.prog 35 #[.slice none 0 0] w (OutP w [1] 1) := by
  go_enter Try.func35, Try.ntmps35
  go_wp2_with (at_make; refine wp_makeR rfl _ _ rfl 1 1 _ _ rfl rfl rfl rfl (by omega) ?_; intro v1 p_o hb)
  have hwo : w.heap.size < v1.heap.size := p_o.lt
  refine (Mbegin0_any).mono ?_
  rintro e v2 ⟨g, p, b, A1, nn, cc, rfl, he, hi, z, ⟨hg, hp, hgp⟩, hb1⟩
  have hgl := he.lt; have hpl := hi.lt
  obtain ⟨p_o, hb⟩ := mv2 hb1 p_o hb
  clear hb1
  go_wp2_with fail
  refine al1c fun v3 hb1 x => ?_
  have x_e := Vc.of x
  obtain ⟨he, hi, z, p_o, hb⟩ := mv5 hb1 he hi z p_o hb
  clear x hb1
  refine (Mrun0_any he hi).mono ?_
  rintro e v4 ⟨rfl, hb1⟩
  obtain ⟨he, hi, z, p_o, x_e, hb⟩ := mv6 hb1 he hi z p_o x_e hb
  have q_e := x_e.al; have q1 := he.c1; have q2 := he.c2; have q5 := he.c5
  clear hb1
  go_wp2_with fail
  refine (Sindex_any (j := 0) (n := 1) hi rfl (by omega) (by omega) rfl (fun i h => by omega)).mono ?_
  rintro e v5 ⟨rfl, hb1⟩
  obtain ⟨he, hi, z, p_o, x_e, hb⟩ := mv6 hb1 he hi z p_o x_e hb
  replace q_e := x_e.al; replace q1 := he.c1; replace q2 := he.c2; replace q5 := he.c5
  clear hb1
  go_wp2_with fail
  go_loopw [46] (fun kv wr => (kv = .int .i64 0 ∧ Pw wr w.heap.size [0] 1 ∨ kv = .int .i64 1 ∧ Pw wr w.heap.size [1] 1) ∧ Eb wr g none (some ⟨p, 0, none⟩) 0 0 1 1 0 b A1 nn cc false ∧ Bi wr p [-1] ∧ Zr wr b A1 nn cc 1 1 ∧ Vc wr v2.heap.size 0 (.pointer (some ⟨g, 0, none⟩)) ∧ Below w.heap.size w wr) (fun kv _ => 1 - (intOf kv).toNat)
  case atStart => exact ⟨.inl ⟨rfl, p_o⟩, he, hi, z, x_e, hb⟩
  case round =>
    clear p_o he hi z x_e hb q_e q1 q2 q5
    obtain ⟨hc, he, hi, z, x_e, hb⟩ := hrel
    rcases hc with ⟨rfl, p_o⟩ | ⟨rfl, p_o⟩
    · have q_e := x_e.al; have q3 := he.c3; have q4 := he.c4
      have q_i := (hi.at_ (k := 0) (by decide)).al
      obtain ⟨At, nt, ct, x_t, _⟩ := p_o.ec (k := 0) (by decide)
      have q_t := x_t.al; have f_t := And.intro (p_o.fr (0 * 2)) (p_o.fr (0 * 2 + 1))
      go_wp2_with fail
      refine (Msigned_any (β := false) z (by omega)).mono ?_
      rintro e v6 ⟨A6, n6, c6, rfl, z6, hb1⟩
      obtain ⟨he, hi, z, x_e, p_o, x_t, hb⟩ := mv7 hb1 he hi z x_e p_o x_t hb
      replace q_t := x_t.al; replace f_t := And.intro (p_o.fr (0 * 2)) (p_o.fr (0 * 2 + 1))
      clear q_e q_i hb1 q3 q4
      go_wp2_with fail
      obtain ⟨hs, hx⟩ := p_o.set (k := 0) (by decide) z6
      exact ⟨⟨.inr ⟨rfl, hx⟩, he.sto (by omega) hs, hi.sto (by omega) hs, Ms.ms hs trivial z, x_e.sto (by omega) hs, ms1 hs (Nat.le_refl _) hb⟩, by decide⟩
    · have hp2 := p_o.po (B := w.heap.size) (Nat.le_refl _)
      clear p_o he hi z x_e
      go_wp2
      go_ret
      exact ⟨_, _, _, rfl, hp2, hb⟩
end Go.Proofs.Ytbpamkpclofnbaa
namespace Go.Proofs.Ytbpamkpclofnbaa
open Go.RowKit
set_option linter.unusedVariables false
set_option maxRecDepth 100000
theorem bytesR : Try.t35.bytes = 24 := by kernel_rfl
/-- What Grow of nothing makes. -/
def GrP (w : World) (n : Nat) (e : Ending) (w' : World) : Prop := (n = 0 ∧ e = .returned (.slice none 0 0) ∧ Below w.heap.size w w') ∨
  (0 < n ∧ ∃ g cap, e = .returned (.slice (some ⟨g, 0, none⟩) 0 cap) ∧ n ≤ cap ∧ w.heap.size ≤ g ∧ Oy w' g 0 cap [] ∧ Below w.heap.size w w')
theorem grow_oy (w : World) {n : Nat} (hn : n ≤ 1000) :
    Oy (w.alloc (.cells (Builtin.zeroCells #[Value.slice none 0 0] n ++ Builtin.zeroCells #[Value.slice none 0 0] (grownCap w n 0 35 - n)) 35)).drew w.heap.size 0 (grownCap w n 0 35) [] := by
  have hge := grownCap_ge w n 0 35
  refine ⟨_, heap_alloc_new w _, Nat.zero_le _, grownCap_le_maxLen w n 0 _ (by unfold maxLen; omega), ?_, rfl, rfl, ?_⟩
  · simp only [Array.size_append, size_zeroCells]
    simp
    omega
  · rw [Array.toList_append]
    exact kd_app (kd_zeroR _) (kd_zeroR _)
set_option maxHeartbeats 2000000 in
theorem Sgrow_any {w : World} {n : Nat} (hn : n ≤ 1000) :
    Calls Try.prog 65 #[.slice none 0 0, .int .i64 (n : Int)] w (GrP w n) := by
  have hb := Below.refl w.heap.size w
  go_enter Try.func65, Try.ntmps65
  rcases (show n = 0 ∨ 0 < n by omega) with h0 | h0
  · subst h0
    go_wp2
    go_ret
    exact .inl ⟨rfl, rfl, hb⟩
  · have hg0 : n ≠ 0 := by omega
    have hg1 : ¬ 281474976710656 < Builtin.nextslicecap n 0 * Try.t35.bytes := Nat.not_lt.2 (growslice_fits h0 (by rw [bytesR]; omega))
    have hg2 : (n : Int) * ((Try.t35.bytes : Nat) : Int) ≤ 281474976710656 := by rw [bytesR]; omega
    have hg3 : (n : Int) ≤ 9223372036854775807 := by omega
    have HN := Lib.hid hn
    clear hn
    go_wp2
    go_ret
    exact .inr ⟨h0, _, _, rfl, grownCap_ge w n 0 35, Nat.le_refl _, grow_oy w HN.out, below_drew (below_alloc w _)⟩
/-- A slice of rows holds these cells. -/
def Rc (w : World) (A : Option Addr) (n : Nat) (xs : List Value) : Prop := xs.length = n ∧ (∀ u ∈ xs, ∃ A m c, u = .slice A m c) ∧ (0 < n → ∃ d o, A = some ⟨d, o, none⟩ ∧ d < w.heap.size ∧ ∀ k (hk : k < xs.length), w.cell? ⟨d, o + k, none⟩ = some xs[k])
theorem Rc.keep {w w' : World} {A : Option Addr} {n : Nat} {xs : List Value} (h : Rc w A n xs) (hb : Below w.heap.size w w') : Rc w' A n xs := ⟨h.1, h.2.1, fun hn => by
  obtain ⟨d, o, e, hd, hc⟩ := h.2.2 hn
  exact ⟨d, o, e, Nat.lt_of_lt_of_le hd hb.size, fun k hk => (hb.cell (p := ⟨d, o + k, none⟩) hd).trans (hc k hk)⟩⟩
instance {w w' : World} {A : Option Addr} {n : Nat} {xs : List Value} : Mv (Rc w A n xs) w w' (Rc w' A n xs) := ⟨fun x y => x.keep y⟩
theorem run_catM (W : World) (ty : TypeId) {g n cap k c : Nat} {xs ys : List Value} {A : Option Addr} (h : Oy W g n cap xs) (hr : Rc W A k ys) (hk : 0 < k) (hroom : n + k ≤ cap) :
    ∃ w', (Builtin.append_ #[22, 22] ty #[.slice (some ⟨g, 0, none⟩) n cap, .slice A k c]).run Try.prog W = .ok (.slice (some ⟨g, 0, none⟩) (n + k) cap) w' ∧ Oy w' g (n + k) cap (xs ++ ys) ∧ Sto W g w' := by
  obtain ⟨i0, hi, hz0, hz1, hz2⟩ := info_parts Try.infoR
  obtain ⟨hyl, hys, hyc⟩ := hr
  obtain ⟨d, o, rfl, hd, hc⟩ := hyc hk
  obtain ⟨cur, hh, hnc, hcm, hcs, htk, hxl, hkd⟩ := h
  have hkd2 : Kd ys := fun u hu x => by obtain ⟨A, m, c, rfl⟩ := hys u hu; simp
  have hr := run_append_room (P := Try.prog) W 22 ty 35 i0 Try.underlying22 hi g n cap cur hh ⟨d, o, none⟩ k c ys (by rw [hz1, hyl]; omega) (fun j u hj => by
    obtain ⟨h1, h2⟩ := List.getElem?_eq_some_iff.1 hj
    rw [add_offN, ← h2]; exact hc j h1) (fun u hu => by obtain ⟨A, m, c, rfl⟩ := hys u hu; rfl) hroom (by rw [hz1, hcs, hyl]; omega)
  simp only [hz1, Nat.mul_one] at hr
  have N : Nl W g := nl_of hh fun i y e => hkd _ (by have := Array.mem_of_getElem? e; simpa using this) y rfl
  refine ⟨_, hr, ⟨_, setRow_heap W g cur _ _ _ hh, hroom, hcm, ?_, ?_, by simp [hxl, hyl], ?_⟩, ⟨rfl, rfl, rfl, by simp [World.setRow], fun k hk => setRow_other W g k _ hk, fun e j x hx => ?_⟩⟩
  · simp [hcs, hyl]; omega
  · rw [htk, show n + k = (xs ++ ys).length by simp [hxl, hyl]]
    exact List.take_left
  · refine kd_app (kd_app ?_ hkd2) ?_
    · exact fun u hu x => hkd u (List.mem_of_mem_take hu) x
    · exact fun u hu x => hkd u (List.mem_of_mem_drop hu) x
  · by_cases eg : e = g
    · subst eg; exact absurd hx (N _ _)
    · exact World.cell?_of_block (setRow_other W g e _ eg)
theorem run_catZ (W : World) (ty : TypeId) {n cap c : Nat} {B A : Option Addr} (hn : n ≤ cap) :
    (Builtin.append_ #[22, 22] ty #[.slice B n cap, .slice A 0 c]).run Try.prog W = .ok (.slice B n cap) W := by
  obtain ⟨i0, hi, hz0, hz1, hz2⟩ := info_parts Try.infoR
  have hu := Try.underlying22
  cases B <;> cases A <;> simp [Builtin.append_, run_underlying hu, sizeOf, typeInfo, hi, hn, storeCells, Builtin.firstCells, Builtin.lenOf, loadCells, loadCellsFrom]
/-- What Concat has made so far: nothing where there will be nothing, else a block with room. -/
def CaV (w : World) (N n : Nat) (xs : List Value) (s : Value) (w' : World) : Prop := xs.length = n ∧ Below w.heap.size w w' ∧ ((N = 0 ∧ s = .slice none 0 0) ∨ (0 < N ∧ ∃ g cap, s = .slice (some ⟨g, 0, none⟩) n cap ∧ N ≤ cap ∧ w.heap.size ≤ g ∧ Oy w' g n cap xs))
theorem wp_catV {w W : World} {ops : Array Oper} {rest : List Oper} {o : Oper} {a : Act} {Q : Exit → Act → World → Prop} (hgd : o.guard = none) (s x : Operand)
    (hop : o.op = .call { callee := .builtin .append, args := #[s, x], argTypes := #[22, 22] }) {v : Value} (hs : a.eval s = v) {N n k c : Nat} {xs ys : List Value} {A : Option Addr} (hx : a.eval x = .slice A k c)
    (h : CaV w N n xs v W) (hr : Rc W A k ys) (hn : n + k ≤ N)
    (hK : ∀ v' w', CaV w N (n + k) (xs ++ ys) v' w' → Fz (fun y => w.heap.size ≤ y) W w' → wpList Try.prog ops Q rest (a.put o.dst v') w') : wpList Try.prog ops Q (o :: rest) a W :=
  wpList_plain hgd fun K hK2 => by
    obtain ⟨hl, hb, h⟩ := h
    have hl2 : (xs ++ ys).length = n + k := by rw [List.length_append, hl, hr.1]
    rcases (show k = 0 ∨ 0 < k by omega) with h0 | h0
    · subst h0
      have hys : ys = [] := List.eq_nil_of_length_eq_zero hr.1
      have hcap : ∃ B m cap, v = .slice B m cap ∧ m ≤ cap := by
        rcases h with ⟨_, rfl⟩ | ⟨_, g, cap, rfl, h1, _, h2⟩
        · exact ⟨_, _, _, rfl, Nat.le_refl _⟩
        · exact ⟨_, _, _, rfl, by omega⟩
      obtain ⟨B, m, cap, rfl, hm⟩ := hcap
      have hrun := run_catZ W o.type (B := B) (A := A) (c := c) hm
      unfold Oper.wp execOp
      simp only [hop, resolve, invoke, builtin, Sem.run_bind, Sem.run_pure, Result.andThen_ok, List.map_toArray, List.map_cons, List.map_nil, hs, hx, hrun]
      refine hK2 _ _ (hK _ _ ⟨hl2, hb, ?_⟩ (Fz.refl _))
      rw [hys, List.append_nil]; exact h
    · rcases h with ⟨h1, _⟩ | ⟨h1, g, cap, rfl, h2, h3, h4⟩
      · omega
      · obtain ⟨w', hrun, h5, h6⟩ := run_catM W o.type (c := c) h4 hr h0 (by omega)
        unfold Oper.wp execOp
        simp only [hop, resolve, invoke, builtin, Sem.run_bind, Sem.run_pure, Result.andThen_ok, List.map_toArray, List.map_cons, List.map_nil, hs, hx, hrun]
        exact hK2 _ _ (hK _ _ ⟨hl2, ms1 h6 h3 hb, .inr ⟨h1, g, cap, rfl, h2, h3, h5⟩⟩ (h6.fz.mono fun y _ e => by show w.heap.size ≤ y; rw [show y = g from e]; exact h3))
set_option maxHeartbeats 4000000 in
theorem Sconcat_any {w : World} {h n1 c1 n2 c2 c N : Nat} {A1 A2 : Option Addr} {xs ys : List Value} (x0 : Vc w h 0 (.slice A1 n1 c1)) (x1 : Vc w h 1 (.slice A2 n2 c2)) (hx : Rc w A1 n1 xs) (hy : Rc w A2 n2 ys) (hN : n1 + n2 = N) (hn : N ≤ 1000) :
    Calls Try.prog 36 #[.slice (some ⟨h, 0, none⟩) 2 c] w fun e w' => ∃ s, e = .returned s ∧ CaV w N N (xs ++ ys) s w' := by
  have q0 := x0.al; have q1 := x1.al
  have hw1 : IntKind.i64.wrap ((n1 : Int) + n2) = (N : Int) := by rw [i64_keep (by omega) (by omega)]; omega
  have HNN := Lib.hid hN
  go_enter Try.func36, Try.ntmps36
  go_wp2_with fail
  go_loopw [3, 11] (fun sv kv wr => w = wr ∧ ((kv = .int .i64 0 ∧ sv = .int .i64 0) ∨ (kv = .int .i64 1 ∧ sv = .int .i64 (n1 : Int)) ∨ (kv = .int .i64 2 ∧ sv = .int .i64 (N : Int)))) (fun _ kv _ => 2 - (intOf kv).toNat)
  case atStart => exact ⟨rfl, .inl ⟨rfl, rfl⟩⟩
  case round =>
    obtain ⟨rfl, hc⟩ := hrel
    rcases hc with ⟨rfl, rfl⟩ | ⟨rfl, rfl⟩ | ⟨rfl, rfl⟩
    · go_wp2_with fail
      exact ⟨⟨trivial, .inr (.inl ⟨rfl, rfl⟩)⟩, by decide⟩
    · go_wp2_with fail
      exact ⟨⟨trivial, .inr (.inr ⟨rfl, rfl⟩)⟩, by decide⟩
    · have HN : Hid (N ≤ 1000) := Lib.hid hn
      go_wp2_with fail
      with_reducible refine (Sgrow_any (n := N) hn).mono ?_
      rintro e v1 hg
      obtain ⟨s, rfl, cv⟩ : ∃ s, e = .returned s ∧ CaV w N 0 [] s v1 := by
        rcases hg with ⟨h0, rfl, hb⟩ | ⟨h0, g, cap, rfl, h1, h2, h3, hb⟩
        · exact ⟨_, rfl, rfl, hb, .inl ⟨h0, rfl⟩⟩
        · exact ⟨_, rfl, rfl, hb, .inr ⟨h0, g, cap, rfl, h1, h2, h3⟩⟩
      clear hg q0 q1 hw1
      go_wp2_with fail
      go_loopw [6, 27] (fun sv kv w2 => (kv = .int .i64 0 ∧ CaV w N 0 [] sv w2) ∨ (kv = .int .i64 1 ∧ CaV w N n1 xs sv w2) ∨ (kv = .int .i64 2 ∧ CaV w N N (xs ++ ys) sv w2)) (fun _ kv _ => 2 - (intOf kv).toNat)
      case atStart => exact .inl ⟨rfl, cv⟩
      case round =>
        clear cv
        rcases hrel with ⟨rfl, cv⟩ | ⟨rfl, cv⟩ | ⟨rfl, cv⟩
        · have q0 := (x0.keep cv.2.1).al
          go_wp2_with (at_builtin; refine wp_catV (w := w) rfl _ _ rfl rfl rfl cv (hx.keep cv.2.1) (by omega) ?_; intro s' w' cv2 hf)
          rw [Nat.zero_add, List.nil_append] at cv2
          exact ⟨.inr (.inl ⟨rfl, cv2⟩), by decide⟩
        · have q1 := (x1.keep cv.2.1).al
          go_wp2_with (at_builtin; refine wp_catV (w := w) rfl _ _ rfl rfl rfl cv (hy.keep cv.2.1) (by omega) ?_; intro s' w' cv2 hf)
          rw [HNN.out] at cv2
          exact ⟨.inr (.inr ⟨rfl, cv2⟩), by decide⟩
        · go_wp2
          go_ret
          exact ⟨_, rfl, cv⟩
end Go.Proofs.Ytbpamkpclofnbaa
