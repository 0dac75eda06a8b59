/-
  slices.Grow, slices.Concat of two slices of rows.
-/
import Derived.Test.YtbpamkpclofnbaaGreatMbuild
import Derived.Test.YtbpamkpclofnbaaGreatMclo
import Derived.WalkMore
import Derived.Deep.LoopGhost
namespace Go.Proofs.YtbpamkpclofnbaaGreat
set_option linter.unusedVariables false
set_option linter.unusedSimpArgs false

/-- The limbs after s steps. -/
def kb (J : Nat) : Nat → Nat
  | 0 => J
  | s + 1 => kb J s + kb J s + 2
theorem kb_mono {J s t : Nat} (h : s ≤ t) : kb J s ≤ kb J t := by
  induction t with
  | zero => rw [Nat.le_zero.1 h]; exact Nat.le_refl _
  | succ t ih =>
    by_cases e : s = t + 1
    · rw [e]; exact Nat.le_refl _
    · have := ih (by omega)
      simp only [kb]; omega
/-- Rows exchanged, and whether oddly often. -/
inductive Swd (n : Nat) (A : MD.Mx) : MD.Mx → Bool → Prop
  | refl : Swd n A A false
  | swap {B : MD.Mx} {o : Bool} {i k : Nat} : Swd n A B o → i < n → k < n → i ≠ k → Swd n A (MD.sw B i k) (!o)
/-- The rows that a step leaves out. -/
def rho (ful : Bool) (s i : Nat) : Bool := if ful then decide (i = s) else decide (i ≤ s)
/-- The columns that a step leaves out. -/
def kap (pr : List Int) (k : Nat) : Bool := decide (0 ≤ pr.getD k 0)
/-- The elimination at a column. -/
structure Rg (A : MD.Mx) (n m : Nat) (ful : Bool) (B : MD.Mx) (o : Bool) (s : Nat) (c : Nat → Nat) (X : Int) (gg T : MD.Mx) (pr : List Int) (col gp : Nat) : Prop where
  sw : Swd n A B o
  bs : MD.Bs B s c X gg
  sn : s ≤ n
  len : pr.length = m
  cm : col ≤ m
  eq : ∀ i j, i < n → j < m → (ful = true ∨ s ≤ i) → pr.getD j 0 < 0 → T i j = gg i j
  pc : ∀ u, u < s → c u < col ∧ pr.getD (c u) 0 = (u : Int)
  pn : ∀ j, j < m → pr.getD j 0 = -1 ∨ ∃ u, u < s ∧ c u = j
  zr : ∀ j, j < col → pr.getD j 0 = -1 → ∀ i, s ≤ i → i < n → gg i j = 0
  ct : s + gp = col
  mo : ∀ u v, u < v → v < s → c u < c v
section
variable {A B gg T : MD.Mx} {n m s r col gp : Nat} {ful o : Bool} {c : Nat → Nat} {X : Int} {pr : List Int}
theorem Rg.init (A : MD.Mx) (n m : Nat) (ful : Bool) (c : Nat → Nat) : Rg A n m ful A false 0 c 1 A A (List.replicate m (-1)) 0 0 :=
  ⟨.refl, MD.Bs.init A c, Nat.zero_le _, by simp, Nat.zero_le _, fun _ _ _ _ _ _ => rfl, fun u hu => by omega, fun j hj => .inl (by simp [List.getD, hj]), fun j hj => by omega, rfl, fun u v _ hv => by omega⟩
theorem Rg.new (h : Rg A n m ful B o s c X gg T pr col gp) (hc : col < m) : pr.getD col 0 = -1 := by
  rcases h.pn col hc with h1 | ⟨u, hu, e⟩
  · exact h1
  · have := (h.pc u hu).1; omega
theorem Rg.here (h : Rg A n m ful B o s c X gg T pr col gp) (hc : col < m) (hr : r < n) (hs : s ≤ r) : T r col = gg r col :=
  h.eq r col hr hc (.inr hs) (by rw [h.new hc]; decide)
theorem Rg.gap (h : Rg A n m ful B o s c X gg T pr col gp) (hc : col < m) (hz : ∀ i, s ≤ i → i < n → T i col = 0) : Rg A n m ful B o s c X gg T pr (col + 1) (gp + 1) :=
  ⟨h.sw, h.bs, h.sn, h.len, hc, h.eq, fun u hu => ⟨by have := (h.pc u hu).1; omega, (h.pc u hu).2⟩, h.pn, fun j hj hp i hi hn => by
    rcases (show j < col ∨ j = col by omega) with h1 | h1
    · exact h.zr j h1 hp i hi hn
    · subst h1; rw [← h.here hc hn hi]; exact hz i hi hn, by have := h.ct; omega, h.mo⟩
theorem sw_self (M : MD.Mx) (s : Nat) : MD.sw M s s = M := by
  funext i j
  simp only [MD.sw]
  split
  · rename_i e; rw [e]
  · rfl
theorem sw_at (M : MD.Mx) {s r i : Nat} (hsr : s ≤ r) : ∃ i', (s ≤ i → s ≤ i') ∧ (∀ n, i < n → s < n → r < n → i' < n) ∧ ∀ M : MD.Mx, MD.sw M s r i = M i' := by
  by_cases h1 : i = s
  · exact ⟨r, fun _ => hsr, fun _ _ _ h => h, fun M => by funext j; simp [MD.sw, h1]⟩
  · by_cases h2 : i = r
    · exact ⟨s, fun _ => Nat.le_refl _, fun _ _ h _ => h, fun M => by funext j; simp only [MD.sw]; rw [if_neg h1, if_pos h2]⟩
    · exact ⟨i, fun h => h, fun _ h _ _ => h, fun M => by funext j; simp only [MD.sw]; rw [if_neg h1, if_neg h2]⟩
theorem Rg.exch (h : Rg A n m ful B o s c X gg T pr col gp) (hs : s ≤ r) (hr : r < n) :
    Rg A n m ful (MD.sw B s r) (o != decide (r ≠ s)) s c X (MD.sw gg s r) (MD.sw T s r) pr col gp := by
  refine ⟨?_, h.bs.swap hs, h.sn, h.len, h.cm, fun i j hi hj hl hp => ?_, h.pc, h.pn, fun j hj hp i hi hn => ?_, h.ct, h.mo⟩
  · by_cases e : r = s
    · subst e; rw [sw_self]; simpa using h.sw
    · have : (o != decide (r ≠ s)) = !o := by simp [e]
      rw [this]
      exact h.sw.swap (by omega) hr (fun e2 => e e2.symm)
  · obtain ⟨i', h1, h2, h3⟩ := sw_at T (i := i) hs
    rw [h3 T, h3 gg]
    exact h.eq i' j (h2 n hi (by omega) hr) hj (hl.imp id h1) hp
  · obtain ⟨i', h1, h2, h3⟩ := sw_at T (i := i) hs
    rw [h3 gg]
    exact h.zr j hj hp i' (h1 hi) (h2 n hn (by omega) hr)
theorem set_getD {l : List Int} {i j : Nat} {x : Int} (hi : i < l.length) : (l.set i x).getD j 0 = if j = i then x else l.getD j 0 := by
  by_cases h : j = i
  · subst h; simp [List.getD, hi]
  · simp [List.getD, List.getElem?_set_ne (Ne.symm h), h]
theorem Rg.step (h : Rg A n m ful B o s c X gg T pr col gp) (hc : col < m) (hs : s < n) (h0 : T s col ≠ 0) :
    ∃ G : MD.Mx, (∀ i k, i < n → k < m → rho ful s i = false → kap (pr.set col (s : Int)) k = false → T i k * T s col - T i col * T s k = X * G i k) ∧
      Rg A n m ful B o (s + 1) (MD.up c s col) (T s col) G (fun i k => if rho ful s i = false ∧ kap (pr.set col (s : Int)) k = false then G i k else T i k) (pr.set col (s : Int)) (col + 1) gp := by
  have e0 := h.here hc hs (Nat.le_refl _)
  have hn := h.new hc
  have hl : col < pr.length := by rw [h.len]; exact hc
  obtain ⟨G, b, g1, g2⟩ := h.bs.step (j0 := col) (by rw [← e0]; exact h0)
  rw [← e0] at b
  have hk : ∀ k, kap (pr.set col (s : Int)) k = false → k ≠ col ∧ pr.getD k 0 < 0 := fun k hk => by
    unfold kap at hk
    rw [set_getD hl] at hk
    by_cases e : k = col
    · rw [if_pos e] at hk; exact absurd (of_decide_eq_false hk) (by omega)
    · rw [if_neg e] at hk; simp at hk; exact ⟨e, hk⟩
  have hr : ∀ i, rho ful s i = false → i ≠ s ∧ (ful = true ∨ s ≤ i) := fun i hi => by
    unfold rho at hi
    cases ful
    · simp at hi; exact ⟨by omega, .inr (by omega)⟩
    · simp at hi; exact ⟨hi, .inl rfl⟩
  have hcs : pr.getD col 0 < 0 := by rw [hn]; decide
  refine ⟨G, fun i k hi hkm h1 h2 => ?_, ⟨h.sw, b, hs, by simp [h.len], hc, fun i j hi hj hl2 hp => ?_, fun u hu => ?_, fun j hj => ?_, fun j hj hp i hi hin => ?_, by have := h.ct; omega, fun u v huv hv => ?_⟩⟩
  · obtain ⟨k1, k2⟩ := hk k h2
    obtain ⟨r1, r2⟩ := hr i h1
    rw [h.eq i k hi hkm r2 k2, h.eq s col hs hc (.inr (Nat.le_refl _)) hcs, h.eq i col hi hc r2 hcs, h.eq s k hs hkm (.inr (Nat.le_refl _)) k2]
    exact (g2 i k r1).symm
  · have hkj : kap (pr.set col (s : Int)) j = false := by unfold kap; simpa using hp
    obtain ⟨k1, k2⟩ := hk j hkj
    by_cases hri : rho ful s i = false
    · simp [hri, hkj]
    · have : i = s := by
        unfold rho at hri
        cases ful
        · simp at hri
          rcases hl2 with hl2 | hl2
          · cases hl2
          · omega
        · simpa using hri
      subst this
      simp only [hri, false_and, if_false]
      rw [g1 j]
      exact h.eq i j hi hj (.inr (Nat.le_refl _)) k2
  · rw [set_getD hl]
    by_cases e : u = s
    · subst e; simp [MD.up]
    · obtain ⟨p1, p2⟩ := h.pc u (by omega)
      have : MD.up c s col u = c u := if_neg e
      rw [this, if_neg (by omega)]
      exact ⟨by omega, p2⟩
  · rw [set_getD hl]
    by_cases e : j = col
    · exact .inr ⟨s, by omega, by simp [MD.up, e]⟩
    · rw [if_neg e]
      rcases h.pn j hj with h1 | ⟨u, hu, e2⟩
      · exact .inl h1
      · exact .inr ⟨u, by omega, by rw [← e2]; exact if_neg (by omega)⟩
  · rw [set_getD hl] at hp
    have hjc : j ≠ col := fun e => by rw [if_pos e] at hp; omega
    rw [if_neg hjc] at hp
    have z1 := h.zr j (by omega) hp i (by omega) hin
    have z2 := h.zr j (by omega) hp s (Nat.le_refl _) hs
    have := g2 i j (by omega)
    rw [z1, z2, Int.zero_mul, Int.mul_zero, Int.sub_zero] at this
    exact (Int.mul_eq_zero.1 this).resolve_left h.bs.ne
  · have e1 : MD.up c s col u = c u := if_neg (by omega)
    rw [e1]
    by_cases e : v = s
    · subst e
      have e2 : MD.up c v col v = col := if_pos rfl
      rw [e2]; exact (h.pc u huv).1
    · have e2 : MD.up c s col v = c v := if_neg e
      rw [e2]; exact h.mo u v huv (by omega)
end
end Go.Proofs.YtbpamkpclofnbaaGreat
namespace Go.Proofs.YtbpamkpclofnbaaGreat
open Go.RowKit
set_option linter.unusedVariables false
set_option maxRecDepth 100000

section
variable {w w' W : World} {g d p n cap m cm nn c J s r : Nat} {L l : List Int} {P : Nat → Prop} {D D0 C : Nat → Nat} {T : Nat → Nat → Int} {pr : List Int} {st : Int} {b o o' : Bool} {A : Option Addr}
theorem Pz.via (h : Pz W g L J) (f : Fz P W w') (hp : ¬ P g) : Pz w' g L J := by
  have hl := h.lt
  obtain ⟨cur, h, h1, h2, h3, h4⟩ := h
  refine ⟨cur, (f.block g hl hp).trans h, h1, h2, h3, fun k hk => ?_⟩
  obtain ⟨b, A, n, c, a1, a2, a3⟩ := h4 k hk
  exact ⟨b, A, n, c, a1, a2, a3.via f⟩
theorem Bi.via (h : Bi W g l) (f : Fz P W w') (hp : ¬ P g) : Bi w' g l := by
  have hl := h.lt
  obtain ⟨cur, h, h2⟩ := h
  exact ⟨cur, (f.block g hl hp).trans h, h2⟩
/-- The place of a row before two rows were exchanged. -/
def tau (s r i : Nat) : Nat := if i = s then r else if i = r then s else i
theorem tau_lt {i : Nat} (hs : s < n) (hr : r < n) (hi : i < n) : tau s r i < n := by unfold tau; split <;> (try split) <;> omega
theorem tau_inj {i j : Nat} (h : i ≠ j) : tau s r i ≠ tau s r j := by unfold tau; (repeat' split) <;> omega
theorem sw_tau (T : MD.Mx) (i : Nat) : MD.sw T s r i = T (tau s r i) := by
  funext j
  simp only [MD.sw, tau]
  split
  · rfl
  · split <;> rfl
theorem rws_len : (rws D C n m).length = n := by simp [rws]
theorem rws_swp (hs : s < n) (hr : r < n) : swp (rws D C n m) r s = rws (fun i => D (tau s r i)) (fun i => C (tau s r i)) n m := by
  rw [swp_eq (by rw [rws_len]; exact hr) (by rw [rws_len]; exact hs)]
  refine List.ext_getElem (by simp [rws]) fun i h1 h2 => ?_
  rw [rws_len] at h2
  simp only [List.getElem_set, rws, List.getElem_map, List.getElem_range, tau]
  by_cases e : s = i
  · subst e; simp
  · rw [if_neg e]
    simp only [if_neg (show ¬ i = s from fun h => e h.symm)]
    by_cases e2 : r = i
    · subst e2; simp
    · rw [if_neg e2]
      simp only [if_neg (show ¬ i = r from fun h => e2 h.symm)]
theorem Nd.tau (N : Nd g d p D n) (hs : s < n) (hr : r < n) : Nd g d p (fun i => D (tau s r i)) n :=
  ⟨N.gd, N.gp, N.dp, fun i hi => N.rg _ (tau_lt hs hr hi), fun i hi => N.rd _ (tau_lt hs hr hi), fun i hi => N.rp _ (tau_lt hs hr hi), fun i j hi hj h => N.rr _ _ (tau_lt hs hr hi) (tau_lt hs hr hj) (tau_inj h)⟩
theorem Ev.exch (N : Nd g d p D n) (h : Ev W g d p D C n cap m cm T pr st b A nn c o J) (hs : s < n) (hr : r < n)
    (e : Eb w' g (some ⟨d, 0, none⟩) (some ⟨p, 0, none⟩) n cap m cm st b A nn c o') (y : Oy w' d n cap (swp (rws D C n m) r s)) (f : Fz (fun x => x = g ∨ x = d) W w') :
    Ev w' g d p (fun i => D (tau s r i)) (fun i => C (tau s r i)) n cap m cm (MD.sw T s r) pr st b A nn c o' J := by
  rw [rws_swp hs hr] at y
  refine ⟨e, y, h.i.via f (by rintro (h | h); exact N.gp h.symm; exact N.dp h.symm), fun a ha => ?_⟩
  have hl : rwl (MD.sw T s r) m a = rwl T m (tau s r a) := by unfold rwl; rw [sw_tau]
  have ht := tau_lt hs hr ha
  rw [hl]
  exact (h.r _ ht).via f (by rintro (h | h); exact N.rg _ ht h; exact N.rd _ ht h)
/-- The blocks that an elimination may write. -/
def Trn (g d p : Nat) (D : Nat → Nat) (n : Nat) : Nat → Prop := fun x => x = g ∨ x = d ∨ x = p ∨ ∃ i, i < n ∧ x = D i
theorem Trn.ex (x : Nat) (h : x = g ∨ x = d) : Trn g d p D0 n x := by
  rcases h with h | h
  · exact .inl h
  · exact .inr (.inl h)
theorem Trn.of (hD : ∀ i, i < n → ∃ j, j < n ∧ D i = D0 j) (x : Nat) (h : Tch g p D n x) : Trn g d p D0 n x := by
  rcases h with h | h | ⟨i, hi, h⟩
  · exact .inl h
  · exact .inr (.inr (.inl h))
  · obtain ⟨j, hj, e⟩ := hD i hi
    exact .inr (.inr (.inr ⟨j, hj, h.trans e⟩))
end
/-- What run tells. -/
def RnP (w : World) (g d p : Nat) (D0 : Nat → Nat) (n cap m cm J gaps : Nat) (ful : Bool) (A0 : MD.Mx) (e : Ending) (w' : World) : Prop :=
  e = .returned (.tuple #[]) ∧ ∃ D C B o s c X gg T pr col gp b A nn cc, Nd g d p D n ∧ (∀ i, i < n → ∃ j, j < n ∧ D i = D0 j) ∧ Ev w' g d p D C n cap m cm T pr ((s : Nat) : Int) b A nn cc o (kb J s) ∧ Zr w' b A nn cc X (kb J s) ∧
    Rg A0 n m ful B o s c X gg T pr col gp ∧ ((col = m ∧ gp ≤ gaps) ∨ (col ≤ m ∧ gp = gaps + 1)) ∧ Fz (Trn g d p D0 n) w w'
/-- What run's loop keeps. -/
def RnL (w : World) (g d p : Nat) (D0 : Nat → Nat) (n cap m cm J gaps : Nat) (ful : Bool) (A0 : MD.Mx) (col : Nat) (gv : Value) (wr : World) : Prop :=
  ∃ D C B o s c X gg T pr gp b A nn cc, Nd g d p D n ∧ (∀ i, i < n → ∃ j, j < n ∧ D i = D0 j) ∧ Ev wr g d p D C n cap m cm T pr ((s : Nat) : Int) b A nn cc o (kb J s) ∧ Zr wr b A nn cc X (kb J s) ∧
    Rg A0 n m ful B o s c X gg T pr col gp ∧ gp ≤ gaps ∧ gv = .int .i64 ((gaps : Int) - (gp : Int)) ∧ Vc wr w.heap.size 0 (.pointer (some ⟨g, 0, none⟩)) ∧ Fz (Trn g d p D0 n) w wr
end Go.Proofs.YtbpamkpclofnbaaGreat
namespace Go.Proofs.YtbpamkpclofnbaaGreat
open Go.RowKit
open MP.Se (nf co)
set_option linter.unusedVariables false
set_option maxRecDepth 100000

theorem ent_run1 : ∀ (args : Array Value) (w : World), (callFunc 168 args).run Tryz.prog w = .ok (.enter 168 args) w := enters_of Tryz.func168 (by kernel_rfl) rfl
set_option maxHeartbeats 8000000 in
theorem Mrun_any {w : World} {g d p n cap m cm nn cc J gaps fR : Nat} {D C : Nat → Nat} {A0 : Nat → Nat → Int} {b ful : Bool} {A : Option Addr} {cR : Array Value}
    (N : Nd g d p D n) (h : Ev w g d p D C n cap m cm A0 (List.replicate m (-1)) 0 b A nn cc false J) (zx : Zr w b A nn cc 1 J) (hK : kb J n ≤ 900000) (hn : n ≤ 1000) (hm : m ≤ 100000) (hgp : gaps ≤ 100000)
    (eR : ∀ (args : Array Value) (w : World), (callFunc fR args).run Tryz.prog w = .ok (.enter fR args) w)
    (hR : ∀ (v : World) (i s : Nat) (b : Bool) (A : Option Addr) (nn c : Nat) (o : Bool), i < n → Fz (Trn g d p D n) w v → Eb v g (some ⟨d, 0, none⟩) (some ⟨p, 0, none⟩) n cap m cm (s : Int) b A nn c o → Calls Tryz.prog fR (#[.int .i64 (i : Int)] ++ cR) v fun e w' => e = .returned (.bool (rho ful s i)) ∧ Below v.heap.size v w') :
    Calls Tryz.prog 137 #[.pointer (some ⟨g, 0, none⟩), .int .i64 (gaps : Int), .func (.func fR) #[] cR] w (RnP w g d p D n cap m cm J gaps ful A0) := by
  have HR := Lib.hid hR
  have HK : Hid (∀ s, s ≤ n → kb J s ≤ 900000) := Lib.hid fun s hs => Nat.le_trans (kb_mono hs) hK
  have HD : Hid (∀ i, i < n → D i < w.heap.size) := Lib.hid fun i hi => (h.r i hi).lt
  have hgl := h.e.lt; have hdl := h.y.lt; have hpl := h.i.lt
  clear hR hK
  go_enter Tryz.func137, Tryz.ntmps137
  go_upto_region 1 with fail
  refine al1 fun v1 hb x_e => ?_
  replace x_e := Vc.of x_e
  have hr0 : RnL w g d p D n cap m cm J gaps ful A0 0 (.int .i64 (gaps : Int)) v1 :=
    ⟨D, C, A0, false, 0, fun _ => 0, 1, A0, A0, _, 0, b, A, nn, cc, N, fun i hi => ⟨i, hi, rfl⟩, h.keep hb, zx.keep hb, Rg.init A0 n m ful _, Nat.zero_le _, by simp, x_e, Fz.of hb⟩
  have q_e := x_e.al; have q1 := (h.keep hb).e.c1
  clear h zx N x_e hb
  go_wp2_with fail
  go_step3
  go_wp2_with fail
  go_step3
  go_wp2_with fail
  clear q_e q1
  go_loopg [15, 1] m (fun gh kv gv wr => ∃ k : Nat, k + gh = m ∧ kv = .int .i64 (k : Int) ∧ RnL w g d p D n cap m cm J gaps ful A0 k gv wr)
  case atStart => exact ⟨0, by omega, rfl, hr0⟩
  case round =>
    clear hr0
    obtain ⟨k, hk, rfl, D1, C1, B, o, s, c, X, gg, T, pr, gp, b1, A1, n1, c1, N, hD, h, zx, hrg, hgg, rfl, x_e, hb⟩ := hrel
    have HN := Lib.hid N; have HDD := Lib.hid hD; have HG := Lib.hid hrg; have hsn := hrg.sn; have HKS := Lib.hid (HK.out s hsn)
    clear N hD hrg
    obtain ⟨q, hq⟩ : ∃ q : Nat, (gaps : Int) - (gp : Int) = (q : Int) := ⟨gaps - gp, by omega⟩
    rw [hq]
    have hq2 : gp + q = gaps := by omega
    clear hq
    rcases (show m = k ∨ k < m by omega) with hkm | hkm
    · subst hkm
      go_wp2_with fail
      simp only [Exit.noGoto]
      go_end0
      exact ⟨rfl, D1, C1, B, o, s, c, X, gg, T, pr, m, gp, b1, A1, n1, c1, HN.out, HDD.out, h, zx, HG.out, .inl ⟨rfl, hgg⟩, hb⟩
    · obtain ⟨gh, rfl⟩ : ∃ g', gk = g' + 1 := ⟨gk - 1, by omega⟩
      have q_e := x_e.al; have q2 := h.e.c2
      go_wp2_with fail
      clear q_e q2
      have hz0 : Hid (∀ i, s ≤ i → i < s → T i k = 0) := Lib.hid fun i h1 h2 => absurd h1 (by omega)
      go_loopg [8] (n - s) (fun gi rv wx => ∃ r : Nat, r + gi = n ∧ s ≤ r ∧ rv = .int .i64 (r : Int) ∧ Hid (∀ i, s ≤ i → i < r → T i k = 0) ∧ Ev wx g d p D1 C1 n cap m cm T pr ((s : Nat) : Int) b1 A1 n1 c1 o (kb J s) ∧ Zr wx b1 A1 n1 c1 X (kb J s) ∧ Vc wx w.heap.size 0 (.pointer (some ⟨g, 0, none⟩)) ∧ Fz (Trn g d p D n) w wx)
      case atStart => exact ⟨s, by omega, Nat.le_refl _, rfl, hz0, h, zx, x_e, hb⟩
      case round =>
        clear hz0 h zx x_e hb
        obtain ⟨r, hr, hsr, rfl, hz, h, zx, x_e, hb⟩ := hrel
        have q_e := x_e.al; have q0 := h.e.c0
        rcases (show n = r ∨ r < n by omega) with hrn | hrn
        · have HZ := Lib.hid (HG.out.gap hkm (fun i h1 h2 => hz.out i h1 (by omega)))
          subst hrn
          have hw : IntKind.i64.wrap ((q : Int) - 1) = (q : Int) - 1 := i64_keep (by omega) (by omega)
          rcases (show q = 0 ∨ 0 < q by omega) with h0 | h0
          · subst h0
            go_wp2_with fail
            simp only [Exit.noGoto]
            go_end0
            exact ⟨rfl, D1, C1, B, o, s, c, X, gg, T, pr, k + 1, gp + 1, b1, A1, n1, c1, HN.out, HDD.out, h, zx, HZ.out, .inr ⟨hkm, by omega⟩, hb⟩
          · go_wp2_with fail
            go_roundg gh
            case measure => omega
            case rel => exact ⟨k + 1, by omega, by go_num, D1, C1, B, o, s, c, X, gg, T, pr, gp + 1, b1, A1, n1, c1, HN.out, HDD.out, h, zx, HZ.out, by omega, by congr 1; omega, x_e, hb⟩
        · obtain ⟨gi, rfl⟩ : ∃ g', gk = g' + 1 := ⟨gk - 1, by omega⟩
          obtain ⟨b2, A2, n2, c2, x_x, z_x⟩ := h.el hrn hkm
          have q3 := h.row hrn; have q4 := x_x.al
          have hsn2 : s < n := by omega
          go_wp2_with fail
          with_reducible refine (ZSign_any z_x (by have := HKS.out; omega)).mono ?_
          rintro e v3 ⟨rfl, hb1⟩
          clear q_e q0 q3 q4 x_x z_x
          obtain ⟨h, zx, x_e, hb⟩ := mv4 hb1 h zx x_e hb
          clear hb1
          by_cases h0 : T r k = 0
          · have HZ : Hid (∀ i, s ≤ i → i < r + 1 → T i k = 0) := Lib.hid fun i h1 h2 => by
              rcases (show i < r ∨ i = r by omega) with h3 | h3
              · exact hz.out i h1 h3
              · subst h3; exact h0
            have hsg : sgnI (T r k) = 0 := by rw [h0]; rfl
            rw [hsg]
            clear hz h0 hsg
            go_wp2_with fail
            go_roundg gi
            case measure => omega
            case rel => exact ⟨r + 1, by omega, by omega, by go_num, HZ, h, zx, x_e, hb⟩
          · have hsg : (sgnI (T r k) != 0) = true := by simpa using fun e => h0 (sgnI_eq0.1 e)
            have HT := Lib.hid h0
            generalize sgnI (T r k) = sg at *
            clear hz h0
            have q_e := x_e.al; have q2 := h.e.c2
            go_upto_region 9 with fail
            go_region_held3 (fun w' => w'.cell? ⟨w.heap.size, 0, none⟩ = some (.pointer (some ⟨g, 0, none⟩)) ∧ w'.cell? ⟨g, 2, none⟩ = some (.int .i64 (s : Int)))
              (first | (exact ⟨x_e.c0, h.e.c2⟩) | go_keep)
              (first | (go_at_call 169; (with_reducible refine (Mexchange_any h.drw.e h.drw.y HN.out.gd hrn hsn2 (rws_at hrn) (rws_at hsn2) (by omega)).mono ?_); rintro e v4 ⟨rfl, e4, y4, f4⟩; have h4 := Ev.exch HN.out h.drw hsn2 hrn e4 y4 f4; have zx4 := zx.drw.via f4; have x_e4 := x_e.drw.via f4 (by rintro (h | h) <;> omega); have hb4 := (hb.thenB (below_drew (Below.refl _ _))).trans (f4.mono fun x _ hx => Trn.ex x hx); clear e4 y4 f4 h zx x_e hb q_e q2; obtain ⟨h, zx, x_e, hb⟩ := And.intro h4 (And.intro zx4 (And.intro x_e4 hb4)); clear h4 zx4 x_e4 hb4; have q_e := x_e.al; have q2 := h.e.c2))
            all_goals
              go_wp2_with fail
              have rg2 := HG.out.exch hsr hrn
              have HN2 := Lib.hid (HN.out.tau hsn2 hrn)
              have HD2 : Hid (∀ i, i < n → ∃ j, j < n ∧ D1 (tau s r i) = D j) := Lib.hid fun i hi => HDD.out _ (tau_lt hsn2 hrn hi)
              have e0 : MD.sw T s r s k = T r k := by rw [sw_tau]; simp [tau]
              obtain ⟨G, hG, rg3⟩ := rg2.step hkm hsn2 (by rw [e0]; exact HT.out)
              have hpl2 : k < pr.length := by rw [rg2.len]; exact hkm
              have HC : Hid (∀ v i, i < m → Fz (Tch g p (fun i => D1 (tau s r i)) n) _ v → Eb v g (some ⟨d, 0, none⟩) (some ⟨p, 0, none⟩) n cap m cm (s : Int) b1 A1 n1 c1 (o != decide (r ≠ s)) → Bi v p (pr.set k (s : Int)) → Calls Tryz.prog 168 (#[.int .i64 (i : Int)] ++ #[.pointer (some ⟨w.heap.size, 0, none⟩)]) v fun e w' => e = .returned (.bool (kap (pr.set k (s : Int)) i)) ∧ Below v.heap.size v w') :=
                Lib.hid fun v i hi hf he hi2 => Mrun1_any (x_e.via hf (by rintro (h | h | ⟨j, hj, h⟩); omega; omega; obtain ⟨j2, hj2, e⟩ := HD2.out j hj; have := HD.out j2 hj2; have h2 : w.heap.size = D1 (tau s r j) := h; rw [e] at h2; omega)) he hi2 (by rw [List.length_set]; exact rg2.len) hi
              with_reducible refine (Mstep_any (ρ := rho ful s) (κ := kap (pr.set k (s : Int))) (K := kb J (s + 1)) HN2.out h zx rg2.bs.ne hsn2 hkm rg2.len (by unfold rho; cases ful <;> simp) (by unfold kap; rw [set_getD hpl2, if_pos rfl]; simp) hG (Nat.le_refl _) (HK.out (s + 1) (by omega)) (by omega) hm eR ent_run1 (fun v i hi hf he hi2 => HR.out v i s _ _ _ _ _ hi (hb.trans (hf.mono fun x _ hx => Trn.of HD2.out x hx)) he) HC.out).mono ?_
              rintro e v5 ⟨rfl, b9, A9, n9, c9, h9, z9, f9⟩
              have x_e9 := x_e.via f9 (by rintro (h | h | ⟨j, hj, h⟩); omega; omega; obtain ⟨j2, hj2, e⟩ := HD2.out j hj; have := HD.out j2 hj2; have h2 : w.heap.size = D1 (tau s r j) := h; rw [e] at h2; omega)
              have hb9 := hb.trans (f9.mono fun x _ hx => Trn.of HD2.out x hx)
              have z9' := z9.kto (kb_mono (J := J) (Nat.le_succ s))
              have RG := Lib.hid rg3
              clear HC hG rg3 rg2 h zx x_e hb f9 z9 q_e q2
              go_wp2_with fail
              go_roundg gh
              case measure => omega
              case rel => exact ⟨k + 1, by omega, by go_num, _, _, _, _, s + 1, _, _, G, _, _, gp, b9, A9, n9, c9, HN2.out, HD2.out, h9, z9', RG.out, hgg, by congr 1; omega, x_e9, hb9⟩
end Go.Proofs.YtbpamkpclofnbaaGreat
namespace Go.Proofs.YtbpamkpclofnbaaGreat
open Go.RowKit
open MP.Se (nf co)
set_option linter.unusedVariables false
set_option maxRecDepth 100000

section
variable {w w' : World} {g r cr m cm n c J : Nat} {R P A : Option Addr} {s : Int} {b o : Bool} {u : Value} {L l : List Int}
theorem Eb.gr (h : Eb w g R P r cr m cm s b A n c o) (hg : Gr u w w') (hne : u.ownBlock ≠ some g) : Eb w' g R P r cr m cm s b A n c o := (hg.at_ h.lt hne).trans h
theorem Bi.gr (h : Bi w g l) (hg : Gr u w w') (hne : u.ownBlock ≠ some g) : Bi w' g l := by
  have hl := h.lt
  obtain ⟨cur, h, h2⟩ := h
  exact ⟨cur, (hg.at_ hl hne).trans h, h2⟩
theorem Pz.gr (h : Pz w g L J) (hg : Gr u w w') (hne : u.ownBlock ≠ some g) : Pz w' g L J := by
  have hl := h.lt
  obtain ⟨cur, h, h1, h2, h3, h4⟩ := h
  refine ⟨cur, (hg.at_ hl hne).trans h, h1, h2, h3, fun k hk => ?_⟩
  obtain ⟨b, A, n, c, a1, a2, a3⟩ := h4 k hk
  exact ⟨b, A, n, c, a1, a2, a3.gr hg⟩
end
theorem Pm.own {V w' : World} {B : Nat} {s u s' : Value} {cs : List Value} (h : Pm V B s cs u s' w') : ∃ g cap, s' = .slice (some ⟨g, 0, none⟩) (cs.length + 1) cap ∧ B ≤ g ∧ Oy w' g (cs.length + 1) cap (cs ++ [u]) := by
  rcases h.1 with ⟨_, e⟩ | ⟨g, cap, e, hg, ho⟩
  · simp at e
  · have e2 : (cs ++ [u]).length = cs.length + 1 := by simp
    rw [e2] at e ho
    exact ⟨g, cap, e, hg, ho⟩
theorem Bi.one {w : World} {g : Nat} {x : Int} (h : w.heap[g]? = some (.cells #[.int .i64 x] 3 (0, 0))) : Bi w g [x] := ⟨_, h, rfl, by simp⟩
/-- The rows that have been copied so far. -/
def BgL (w : World) (g p m : Nat) (M : List (List Int)) (J i : Nat) (s : Value) (wr : World) : Prop :=
  ∃ D C, Gm wr w.heap.size s (rws D C i m) ∧ (∀ k, k < i → Pz wr (D k) (rwl (mx M) m k) J) ∧ (∀ k, k < i → D k ≠ g ∧ D k ≠ p ∧ s.ownBlock ≠ some (D k) ∧ w.heap.size ≤ D k) ∧ (∀ a b, a < i → b < i → a ≠ b → D a ≠ D b) ∧ s.ownBlock ≠ some g ∧ s.ownBlock ≠ some p
theorem rws_snoc {D C : Nat → Nat} {i m g cap : Nat} : rws (fun k => if k = i then g else D k) (fun k => if k = i then cap else C k) (i + 1) m = rws D C i m ++ [.slice (some ⟨g, 0, none⟩) m cap] := by
  unfold rws
  rw [List.range_succ, List.map_append]
  congr 1
  · refine List.map_congr_left fun k hk => ?_
    have := List.mem_range.1 hk
    dsimp only
    rw [if_neg (by omega), if_neg (by omega)]
  · simp
theorem BgL.next {w v6 w8 w9 : World} {D C : Nat → Nat} {g p m J i g6 cap6 W0 : Nat} {M : List (List Int)} {s s8 : Value} (gm : Gm v6 w.heap.size s (rws D C i m)) (hP : ∀ k, k < i → Pz v6 (D k) (rwl (mx M) m k) J) (hF : ∀ k, k < i → D k ≠ g ∧ D k ≠ p ∧ s.ownBlock ≠ some (D k) ∧ w.heap.size ≤ D k) (hD : ∀ a b, a < i → b < i → a ≠ b → D a ≠ D b)
    (hsg : s.ownBlock ≠ some g) (hsp : s.ownBlock ≠ some p) (hown : ∀ k, s.ownBlock = some k → k < W0) (hg6 : W0 ≤ g6) (hw : w.heap.size ≤ W0) (pz : Pz v6 g6 (rwl (mx M) m i) J) (hpu : Pm v6 w.heap.size s (rws D C i m) (.slice (some ⟨g6, 0, none⟩) m cap6) s8 w8)
    (hg : g < W0) (hp : p < W0) (hD0 : ∀ k, k < i → D k < W0) (st : Sto w8 g w9) (hW : W0 ≤ v6.heap.size) : BgL w g p m M J (i + 1) s8 w9 := by
  have hl6 := pz.lt
  have hne : ∀ k, k < v6.heap.size → s.ownBlock ≠ some k → s8.ownBlock ≠ some k := fun k hk h e => by
    rcases hpu.2.2 with h1 | ⟨k2, h1, h2⟩
    · rw [h1] at e; exact h e
    · rw [h2] at e; injection e with e; omega
  have hs6 : s.ownBlock ≠ some g6 := fun e => by have := hown _ e; omega
  have h8g := hne g (by omega) hsg
  refine ⟨fun k => if k = i then g6 else D k, fun k => if k = i then cap6 else C k, ?_, fun k hk => ?_, fun k hk => ?_, fun a b ha hb hab => ?_, h8g, hne p (by omega) hsp⟩
  · rw [rws_snoc]; exact hpu.1.sto h8g st
  · by_cases e : k = i
    · subst e
      dsimp only
      rw [if_pos rfl]
      exact (pz.gr hpu.2.1 hs6).sto (by omega) st
    · dsimp only
      rw [if_neg e]
      have hk2 : k < i := by omega
      exact ((hP k hk2).gr hpu.2.1 (hF k hk2).2.2.1).sto (hF k hk2).1 st
  · by_cases e : k = i
    · subst e
      dsimp only
      rw [if_pos rfl]
      exact ⟨by omega, by omega, hne g6 hl6 hs6, by omega⟩
    · dsimp only
      rw [if_neg e]
      have hk2 : k < i := by omega
      obtain ⟨h1, h2, h3, h4⟩ := hF k hk2
      exact ⟨h1, h2, hne _ (by have := hD0 k hk2; omega) h3, h4⟩
  · dsimp only
    by_cases ea : a = i
    · subst ea
      rw [if_pos rfl, if_neg (fun e => hab e.symm)]
      have := hD0 b (by omega); omega
    · rw [if_neg ea]
      by_cases eb : b = i
      · rw [if_pos eb]; have := hD0 a (by omega); omega
      · rw [if_neg eb]; exact hD a b (by omega) (by omega) hab
/-- A new elimination without rows. -/
def BgN (w : World) (m : Nat) (s : Value) (wx : World) : Prop :=
  ∃ g p cm b A n c, s = .pointer (some ⟨g, 0, none⟩) ∧ Eb wx g none (some ⟨p, 0, none⟩) 0 0 m cm 0 b A n c false ∧ Bi wx p (List.replicate m (-1)) ∧ Zr wx b A n c 1 1 ∧ (w.heap.size ≤ g ∧ w.heap.size ≤ p ∧ g ≠ p) ∧ Below w.heap.size w wx
theorem BgN.new {w v : World} {m p n c : Nat} {b : Bool} {A : Option Addr} (hv : Below w.heap.size w v) (hp : w.heap.size ≤ p) (x : Bi v p (List.replicate m (-1))) (z : Zr v b A n c 1 1) :
    BgN w m (.pointer (some ⟨v.heap.size, 0, none⟩)) (v.alloc (.cells #[.slice none 0 0, .slice (some ⟨p, 0, none⟩) m m, .int .i64 0, .bool b, .slice A n c, .bool false] 79)) :=
  ⟨_, p, m, b, A, n, c, rfl, heap_alloc_new v _, x.keep (below_alloc _ _), z.keep (below_alloc _ _), ⟨hv.size, hp, by have := x.lt; omega⟩, bthen hv (below_alloc _ _)⟩
set_option maxHeartbeats 4000000 in
theorem Mbegin_any {w : World} {B n c J m : Nat} {A : Option Addr} {M : List (List Int)} (h : Me w B A n c M J) (hr : ∀ k (hk : k < M.length), M[k].length = m) (hn1 : 1 ≤ n) (hn : n ≤ 1000) (hm1 : 1 ≤ m) (hm : m ≤ 100000) (hJ : 1 ≤ J) :
    Calls Tryz.prog 136 #[.slice A n c, .int .i64 (m : Int)] w fun e w' => ∃ g d p D C cap cm b A1 nn cc, e = .returned (.pointer (some ⟨g, 0, none⟩)) ∧ Nd g d p D n ∧ Ev w' g d p D C n cap m cm (mx M) (List.replicate m (-1)) 0 b A1 nn cc false J ∧ Zr w' b A1 nn cc 1 J ∧
      (w.heap.size ≤ g ∧ w.heap.size ≤ d ∧ w.heap.size ≤ p ∧ ∀ i, i < n → w.heap.size ≤ D i) ∧ Below w.heap.size w w' := by
  have HR := Lib.hid hr; have HM := Lib.hid h
  clear hr
  go_enter Tryz.func136, Tryz.ntmps136
  go_wp2_with fail
  with_reducible refine (ZOf_any 1 (by omega) (by omega)).mono ?_
  rintro e v1 ⟨A9, n9, c9, rfl, z9, hb⟩
  replace h := h.keep hb
  go_wp2_with fail
  refine al1c fun v2 hb1 x => ?_
  have x_i := Bi.one x
  obtain ⟨h, z9, hb⟩ := mv3 hb1 h z9 hb
  clear hb1 x
  with_reducible refine (Srepeat_any x_i hm1 hm).mono ?_
  rintro e v3 ⟨p, rfl, hp, x_p, hb1⟩
  replace hp : w.heap.size ≤ p := Nat.le_trans hb.size hp
  obtain ⟨h, z9, hb⟩ := mv3 hb1 h z9 hb
  clear hb1 x_i
  go_upto_region 2 with fail
  have hgb := hb.size
  refine al1 fun v4 hb1 x => ?_
  have x_e : Eb v4 v3.heap.size none (some ⟨p, 0, none⟩) 0 0 m m 0 (ngB 1) A9 n9 c9 false := x
  have hpl := x_p.lt
  obtain ⟨h, z9, x_p, hb⟩ := mv4 hb1 h z9 x_p hb
  clear hb1 x
  generalize v3.heap.size = g at *
  have hgp : g ≠ p := by omega
  have hr0 : BgL w g p m M J 0 (.slice none 0 0) v4 := ⟨fun _ => 0, fun _ => 0, Gm.nil _ _, fun k hk => by omega, fun k hk => by omega, fun a b ha => by omega, by simp [Value.ownBlock], by simp [Value.ownBlock]⟩
  go_wp2_with fail
  go_loopw [16] (fun kv wr => ∃ i : Nat, i ≤ n ∧ kv = .int .i64 (i : Int) ∧ (∃ R r cr, Eb wr g R (some ⟨p, 0, none⟩) r cr m m 0 (ngB 1) A9 n9 c9 false ∧ BgL w g p m M J i (.slice R r cr) wr) ∧ Me wr B A n c M J ∧ Bi wr p (List.replicate m (-1)) ∧ Zn wr A9 n9 c9 1 1 ∧ Below w.heap.size w wr) (fun kv _ => n - (intOf kv).toNat)
  case atStart => exact ⟨0, by omega, rfl, ⟨_, _, _, x_e, hr0⟩, h, x_p, z9, hb⟩
  case round =>
    clear hr0 x_e h x_p z9 hb
    obtain ⟨i, hi, rfl, ⟨R, r, cr, x_e, D, C, gm, hpz, hdf, hdd, hsg, hsp⟩, h, x_p, z9, hb⟩ := hrel
    have HP := Lib.hid hpz; have HDF := Lib.hid hdf; have HDD := Lib.hid hdd
    clear hpz hdf hdd
    rcases (show n = i ∨ i < n by omega) with hin | hin
    · subst hin
      have GM := Lib.hid gm; have XE := Lib.hid x_e; have H1 := Lib.hid h; have XP := Lib.hid x_p; have Z9 := Lib.hid z9; have HB := Lib.hid hb
      clear gm x_e h x_p z9 hb
      go_wp2
      go_ret
      rcases GM.out with ⟨_, e⟩ | ⟨d, cap, e, hd, oy⟩
      · have := congrArg List.length e; rw [rws_len] at this; simp at this; omega
      · rw [rws_len] at oy e
        injection e with e1 e2 e3
        subst e1; subst e2; subst e3
        have hdo : ∀ x, (Value.slice (some ⟨d, 0, none⟩) r cr).ownBlock ≠ some x → d ≠ x := fun x h e => h (by simp [Value.ownBlock, e])
        refine ⟨g, d, p, D, C, cr, m, ngB 1, A9, n9, c9, rfl, ⟨fun e => hdo _ hsg e.symm, hgp, hdo _ hsp, fun k hk => (HDF.out k hk).1, fun k hk e => hdo _ (HDF.out k hk).2.2.1 e.symm, fun k hk => (HDF.out k hk).2.1, fun a b ha hb h => HDD.out a b ha hb h⟩, ⟨XE.out, oy, XP.out, fun a ha => HP.out a ha⟩, Z9.out.zr.kto hJ, ⟨hgb, hd, hp, fun k hk => (HDF.out k hk).2.2.2⟩, HB.out⟩
    · obtain ⟨d, o, A', m', c', rfl, hd, x_r, pe⟩ := h.row hin
      have hlM := h.len
      have hm' : m' = m := by rw [← pe.len]; exact HR.out i (by omega)
      subst hm'
      have hrl : M[i]'(by omega) = rwl (mx M) m' i := by
        refine List.ext_getElem (by rw [rwl_len]; exact pe.len) fun k h1 h2 => ?_
        rw [rwl_at, mx_at (by omega) h1]
      rw [hrl] at pe
      have q_r := x_r.al; have q_e := x_e.c0; have f_e := x_e.fr 0
      have hln : (rws D C i m').length ≤ 1000 := by rw [rws_len]; omega
      have hss := hb.size; have hww := hb.size
      go_wp2_with fail
      go_upto_region 5 with fail
      have hgx := x_e.lt; have hpx := x_p.lt
      have HW : Hid (∀ k, (Value.slice R r cr).ownBlock = some k → k < wr.heap.size) := Lib.hid fun k hk => (gm.lt hk).2
      have HD0 : Hid (∀ k, k < i → D k < wr.heap.size) := Lib.hid fun k hk => (HP.out k hk).lt
      go_region_law
        (first | (go_simp; go_at_call 167; (with_reducible refine (Sclone_any pe.drw.pd.pe (by omega)).mono ?_); rintro e v6 ⟨g6, cap6, rfl, hg6, pz, hc6, hb1⟩; replace hb1 := undrew hb1; obtain ⟨x_e, gm, h, x_p, z9, hb⟩ := mv6 hb1 x_e gm h x_p z9 hb; have HP6 : Hid (∀ k, k < i → Pz v6 (D k) (rwl (mx M) m' k) J) := Lib.hid (fun k hk => (HP.out k hk).keep hb1); have hW6 : wr.heap.size ≤ v6.heap.size := hb1.size; have hss := hb.size; clear hb1; replace q_e := x_e.c0; replace f_e := x_e.fr 0; have q_a : ∀ o, (v6.alloc o).cell? ⟨g, 0, none⟩ = some (.slice R r cr) := (fun o => (x_e.keep (below_alloc v6 o)).c0)) | (refine step_pushM (V := v6) (by rfl) _ _ (by rfl) (by rfl) gm hln hss (by rfl) ?_; intro s8 w8 hpu; obtain ⟨g8, cap8, rfl, hB8, oy⟩ := hpu.own; replace x_e := x_e.gr hpu.2.1 hsg; replace q_e := x_e.c0; replace f_e := x_e.fr 0))
      all_goals
        obtain ⟨st, x_e9⟩ := x_e.rows (R' := some ⟨g8, 0, none⟩) (r' := (rws D C i m').length + 1) (cr' := cap8)
        have hb8 := Gr.belowM hb hss gm hpu.2.1 (Nat.le_refl _)
        have hb9 : Below w.heap.size w _ := ms1 st hgb hb8
        have hx9 := (x_p.gr hpu.2.1 hsp).sto (fun e => hgp e.symm) st
        have hz9 : Zn _ A9 n9 c9 1 1 := Ms.ms (g := g) st trivial (z9.gr hpu.2.1)
        have hl9 := BgL.next (M := M) gm HP6.out HDF.out HDD.out hsg hsp HW.out hg6 hww pz hpu hgx hpx HD0.out st hW6
        clear gm hpu pz oy x_e h x_p z9 hb q_e f_e q_a st hb8 q_r x_r pe
        go_wp2_with fail
        exact ⟨⟨i + 1, by omega, by go_num, ⟨_, _, _, x_e9, hl9⟩, HM.out.keep hb9, hx9, hz9, hb9⟩, by simp [intOf]; omega⟩
end Go.Proofs.YtbpamkpclofnbaaGreat
namespace Go.Proofs.YtbpamkpclofnbaaGreat.MD
set_option linter.unusedVariables false
set_option linter.unusedSimpArgs false
theorem det_smul (n : Nat) (d : Int) (A : Mx) : det n (fun i k => d * A i k) = d ^ n * det n A := by
  induction n generalizing A with
  | zero => simp [det]
  | succ n ih =>
    simp only [det]
    rw [← sm_mul]
    refine sm_congr fun k hk => ?_
    rw [show mn (fun i k => d * A i k) 0 k = fun i c => d * mn A 0 k i c from rfl, ih, Int.pow_succ]
    grind
/-- A block of noughts above, on the right. -/
theorem det_block (b : Nat) : ∀ (a : Nat) (N : Mx), (∀ i k, i < a → a ≤ k → k < a + b → N i k = 0) → det (a + b) N = det a N * det b (fun i k => N (a + i) (a + k))
  | 0, N, h => by
    simp only [det, Int.one_mul, Nat.zero_add]
  | a + 1, N, h => by
    rw [show a + 1 + b = (a + b) + 1 by omega]
    simp only [det]
    rw [sm_cut (s := a + 1) (n := a + b + 1) (by omega) fun k h1 h2 => by rw [h 0 k (by omega) h1 (by omega)]; simp, ← sm_mulr]
    refine sm_congr fun k hk => ?_
    rw [det_block b a (mn N 0 k) fun i c hi h1 h2 => h _ _ (dl_bd hi) (by rw [dl_ge (k := k) (j := c) (by omega)]; omega) (by rw [dl_ge (k := k) (j := c) (by omega)]; omega)]
    rw [det_congr (n := b) (A := fun i c => mn N 0 k (a + i) (a + c)) (B := fun i c => N (a + 1 + i) (a + 1 + c)) fun i c _ _ => by
      simp only [mn]
      rw [dl_ge (k := 0) (j := a + i) (by omega), dl_ge (k := k) (j := a + c) (by omega)]
      congr 1 <;> omega]
    grind
/-- All numbers of a matrix, but for a factor, come of s rows. -/
def Fac (A : Mx) (r c s : Nat) : Prop := ∃ (d : Int) (C R : Mx), d ≠ 0 ∧ ∀ i k, i < r → k < c → d * A i k = sm s fun u => C i u * R u k
/-- Some s rows and columns have a determinant that is not 0. -/
def Min (A : Mx) (r c s : Nat) : Prop := ∃ ρ γ : Nat → Nat, (∀ t, t < s → ρ t < r) ∧ (∀ t, t < s → γ t < c) ∧ det s (fun t u => A (ρ t) (γ u)) ≠ 0
/-- The rank. -/
def Rk (A : Mx) (r c s : Nat) : Prop := Min A r c s ∧ Fac A r c s
section
variable {A B : Mx} {r c s t m : Nat}
theorem Min.le (h : Min A r c t) (h2 : Fac A r c s) : t ≤ s := by
  obtain ⟨ρ, γ, h3, h4, h5⟩ := h
  obtain ⟨d, C, R, hd, h6⟩ := h2
  by_cases e : t ≤ s
  · exact e
  · exfalso
    have h7 : det t (fun i k => d * (fun t u => A (ρ t) (γ u)) i k) = det t (mul s (fun i u => C (ρ i) u) (fun u k => R u (γ k))) := det_congr fun i k hi hk => h6 _ _ (h3 i hi) (h4 k hk)
    rw [det_smul, det_thin (by omega)] at h7
    rcases Int.mul_eq_zero.1 h7 with h8 | h8
    · exact absurd h8 (Int.pow_ne_zero hd)
    · exact h5 h8
theorem Rk.one (h : Rk A r c s) (h2 : Rk A r c t) : s = t := Nat.le_antisymm (h.1.le h2.2) (h2.1.le h.2)
theorem Fac.rows (A : Mx) (r c : Nat) : Fac A r c r := ⟨1, MD.one, A, by decide, fun i k hi hk => by
  rw [sm_one (j := i) hi fun u _ hu => by simp [MD.one, Ne.symm hu]]
  simp [MD.one]⟩
theorem Fac.cols (A : Mx) (r c : Nat) : Fac A r c c := ⟨1, A, MD.one, by decide, fun i k hi hk => by
  rw [sm_one (j := k) hk fun u _ hu => by simp [MD.one, hu]]
  simp [MD.one]⟩
theorem Rk.le_rows (h : Rk A r c s) : s ≤ r := h.1.le (Fac.rows A r c)
theorem Rk.le_cols (h : Rk A r c s) : s ≤ c := h.1.le (Fac.cols A r c)
theorem Rk.tr (h : Rk A r c s) : Rk (MD.tr A) c r s := by
  obtain ⟨⟨ρ, γ, h3, h4, h5⟩, d, C, R, hd, h6⟩ := h
  refine ⟨⟨γ, ρ, h4, h3, ?_⟩, d, MD.tr R, MD.tr C, hd, fun i k hi hk => ?_⟩
  · rw [← det_tr] at h5; exact h5
  · refine (h6 k i hk hi).trans (sm_congr fun u _ => Int.mul_comm _ _)
theorem Rk.congr (h : Rk A r c s) (e : ∀ i k, i < r → k < c → A i k = B i k) : Rk B r c s := by
  obtain ⟨⟨ρ, γ, h3, h4, h5⟩, d, C, R, hd, h6⟩ := h
  refine ⟨⟨ρ, γ, h3, h4, ?_⟩, d, C, R, hd, fun i k hi hk => by rw [← e i k hi hk]; exact h6 i k hi hk⟩
  rwa [det_congr fun i k hi hk => (e _ _ (h3 i hi) (h4 k hk)).symm]
/-- A row more that is a sum of multiples of two others. -/
theorem Rk.more (h : Rk A r c s) {i1 i2 : Nat} {a b : Int} (h1 : i1 < r) (h2 : i2 < r) (e : ∀ i k, i < r → k < c → B i k = A i k) (e2 : ∀ k, k < c → B r k = a * A i1 k + b * A i2 k) : Rk B (r + 1) c s := by
  obtain ⟨⟨ρ, γ, h3, h4, h5⟩, d, C, R, hd, h6⟩ := h
  refine ⟨⟨ρ, γ, fun t ht => Nat.lt_succ_of_lt (h3 t ht), h4, ?_⟩, d, fun i u => if i = r then a * C i1 u + b * C i2 u else C i u, R, hd, fun i k hi hk => ?_⟩
  · rwa [det_congr fun i k hi hk => e _ _ (h3 i hi) (h4 k hk)]
  · by_cases hi2 : i = r
    · subst hi2
      simp only [if_true]
      rw [e2 k hk, sm_congr (g := fun u => a * (C i1 u * R u k) + b * (C i2 u * R u k)) fun u _ => by grind, sm_add, sm_mul, sm_mul, ← h6 i1 k h1 hk, ← h6 i2 k h2 hk]
      grind
    · simp only [if_neg hi2]
      rw [e i k (by omega) hk]; exact h6 i k (by omega) hk
theorem Fac.mul (h : Fac A r m s) : Fac (MD.mul m A B) r c s := by
  obtain ⟨d, C, R, hd, h6⟩ := h
  refine ⟨d, C, MD.mul m R B, hd, fun i k hi hk => ?_⟩
  simp only [MD.mul]
  rw [← sm_mul, sm_congr (g := fun j => sm s fun u => C i u * R u j * B j k) fun j hj => by rw [← Int.mul_assoc, h6 i j hi hj, ← sm_mulr], sm_comm]
  refine sm_congr fun u _ => ?_
  rw [← sm_mul]
  exact sm_congr fun j _ => by grind
theorem Fac.mulr (h : Fac B m c s) : Fac (MD.mul m A B) r c s := by
  obtain ⟨d, C, R, hd, h6⟩ := h
  refine ⟨d, MD.mul m A C, R, hd, fun i k hi hk => ?_⟩
  simp only [MD.mul]
  rw [← sm_mul, sm_congr (g := fun j => sm s fun u => A i j * C j u * R u k) fun j hj => by
    rw [show d * (A i j * B j k) = A i j * (d * B j k) by grind, h6 j k hj hk, ← sm_mul]; exact sm_congr fun u _ => by grind, sm_comm]
  exact sm_congr fun u _ => by rw [← sm_mulr]
theorem sm_split (a b : Nat) (f : Nat → Int) : sm (a + b) f = sm a f + sm b fun k => f (a + k) := by
  induction b with
  | zero => simp [sm]
  | succ b ih => rw [← Nat.add_assoc, sm, ih]; simp only [sm]; omega
/-- Sylvester's inequality. -/
theorem Rk.prod {sa sb : Nat} (h : Rk A r m sa) (h2 : Rk B m c sb) (h3 : Rk (MD.mul m A B) r c s) : s ≤ sa ∧ s ≤ sb ∧ sa + sb ≤ s + m := by
  refine ⟨h3.1.le h.2.mul, h3.1.le h2.2.mulr, ?_⟩
  obtain ⟨ρ, γ, g3, g4, g5⟩ := h.1
  obtain ⟨ρ', γ', k3, k4, k5⟩ := h2.1
  obtain ⟨d, C, R, hd, h6⟩ := h3.2
  -- the block matrix: ones and B above, A and noughts below
  let M : Mx := fun i j => if i < m then (if j < m then MD.one i j else B i (j - m)) else (if j < m then A (i - m) j else 0)
  have hF : Fac M (m + r) (m + c) (m + s) := by
    refine ⟨d, fun i u => if u < m then (if i < m then d * MD.one i u else d * A (i - m) u) else (if i < m then 0 else -C (i - m) (u - m)), fun u j => if u < m then (if j < m then MD.one u j else B u (j - m)) else (if j < m then 0 else R (u - m) (j - m)), hd, fun i j hi hj => ?_⟩
    rw [sm_split]
    by_cases hi2 : i < m
    · rw [sm_one (j := i) hi2 fun u hu hui => by simp only [if_pos hu, if_pos hi2, MD.one, if_neg (Ne.symm hui)]; simp, sm_nil fun u _ => by simp only [if_neg (show ¬ m + u < m by omega), if_pos hi2]; simp]
      simp only [M, if_pos hi2, MD.one, if_true]
      rw [Int.mul_one, Int.add_zero]
    · by_cases hj2 : j < m
      · rw [sm_one (j := j) hj2 fun u hu huj => by simp only [if_pos hu, if_neg hi2, if_pos hj2, MD.one, if_neg huj]; simp, sm_nil fun u _ => by simp only [if_neg (show ¬ m + u < m by omega), if_pos hj2]; simp]
        simp only [M, if_neg hi2, if_pos hj2, MD.one, if_true]
        omega
      · have e1 := h6 (i - m) (j - m) (by omega) (by omega)
        simp only [MD.mul] at e1
        rw [sm_congr (g := fun u => d * (A (i - m) u * B u (j - m))) fun u hu => by simp only [if_pos hu, if_neg hi2, if_neg hj2]; grind,
          sm_congr (n := s) (g := fun u => -1 * (C (i - m) u * R u (j - m))) fun u hu => by simp only [if_neg (show ¬ m + u < m by omega), if_neg hi2, if_neg hj2, show m + u - m = u by omega]; grind, sm_mul, sm_mul, e1]
        simp only [M, if_neg hi2, if_neg hj2]
        omega
  have hM : Min M (m + r) (m + c) (sb + sa) := by
    refine ⟨fun t => if t < sb then ρ' t else m + ρ (t - sb), fun u => if u < sb then m + γ' u else γ (u - sb), fun t ht => ?_, fun t ht => ?_, ?_⟩
    · dsimp only
      split
      · next e => have := k3 t e; omega
      · have := g3 (t - sb) (by omega); omega
    · dsimp only
      split
      · next e => have := k4 t e; omega
      · have := g4 (t - sb) (by omega); omega
    · rw [← det_tr, det_block]
      · rw [det_congr (n := sb) (B := MD.tr fun t u => B (ρ' t) (γ' u)) fun i k hi hk => by
          simp only [MD.tr, if_pos hi, if_pos hk, M]
          rw [if_pos (k3 k hk), if_neg (by omega), show m + γ' i - m = γ' i by omega],
          det_congr (n := sa) (B := MD.tr fun t u => A (ρ t) (γ u)) fun i k hi hk => by
          simp only [MD.tr, if_neg (show ¬ sb + i < sb by omega), if_neg (show ¬ sb + k < sb by omega), M, show sb + i - sb = i by omega, show sb + k - sb = k by omega]
          rw [if_neg (by omega), if_pos (g4 i hi), show m + ρ k - m = ρ k by omega], det_tr, det_tr]
        intro e
        rcases Int.mul_eq_zero.1 e with e | e
        · exact k5 e
        · exact g5 e
      · intro i k hi h1 h2
        simp only [MD.tr, if_pos hi, if_neg (show ¬ k < sb by omega), M]
        rw [if_neg (by omega), if_neg (by omega)]
  have := hM.le hF
  omega
/-- A square matrix has full rank just if its determinant is not 0. -/
theorem Rk.full {n : Nat} (h : Rk A n n s) : det n A = 0 ↔ s < n := by
  constructor
  · intro h0
    have h1 := h.le_rows
    by_cases e : s = n
    · subst e
      exfalso
      obtain ⟨ρ, γ, h3, h4, h5⟩ := h.1
      apply h5
      have e1 : det s (fun t u => A (ρ t) (γ u)) = det s (MD.mul s (fun t i => MD.one (ρ t) i) (MD.mul s A fun i u => MD.one i (γ u))) := det_congr fun t u ht hu => by
        simp only [MD.mul]
        rw [sm_one (j := ρ t) (h3 t ht) fun i _ hi => by simp [MD.one, Ne.symm hi], sm_one (j := γ u) (h4 u hu) fun i _ hi => by simp [MD.one, hi]]
        simp [MD.one]
      rw [e1, det_mul, det_mul, h0]
      simp
    · omega
  · intro h0
    by_cases e : det n A = 0
    · exact e
    · have := Min.le (A := A) (r := n) (c := n) (t := n) ⟨id, id, fun t h => h, fun t h => h, e⟩ h.2
      omega
end
/-- What the elimination ends with tells the rank. -/
theorem Bs.rk {A : Mx} {s r n : Nat} {c : Nat → Nat} {p : Int} {g : Mx} (h : Bs A s c p g) (hs : s ≤ r) (hc : ∀ u, u < s → c u < n)
    (hz : ∀ j, j < n → (∀ u, u < s → c u ≠ j) → ∀ i, s ≤ i → i < r → g i j = 0) : Rk A r n s := by
  refine ⟨⟨id, c, fun t ht => Nat.lt_of_lt_of_le ht hs, hc, ?_⟩, p, fun i u => A i (c u), g, h.ne, fun i j hi hj => ?_⟩
  · show det s (fun t u => A t (c u)) ≠ 0
    rw [h.dt]; exact h.ne
  · by_cases hj2 : ∃ v, v < s ∧ c v = j
    · obtain ⟨v, hv, rfl⟩ := hj2
      -- the numbers in a pivot's column: the last pivot, and noughts
      have h1 : ∀ u, u < s → g u (c v) = if u = v then p else 0 := fun u hu => by
        have h2 := cramer (K := fun t u => A t (c u)) (x := fun u => g u (c v)) (b := fun t => A t (c v)) (p := p) hu fun i hi => h.hi i (c v) hi
        rw [h.dt] at h2
        rw [Int.eq_of_mul_eq_mul_left h.ne h2]
        by_cases e : u = v
        · subst e
          rw [if_pos rfl, det_congr (B := fun t u => A t (c u)) fun i k _ _ => by
            simp only [sc]
            split
            · next e => rw [e]
            · rfl]
          exact h.dt
        · rw [if_neg e, det_sc]
          exact (alt_det s).eq (i := u) (k := v) e hu hv fun t _ => by simp [sr, MD.tr, Ne.symm e]
      rw [sm_one (j := v) hv fun u hu huv => by rw [h1 u hu, if_neg huv, Int.mul_zero], h1 v hv, if_pos rfl, Int.mul_comm]
    · exact h.dep (fun i h1 h2 => hz j hj (fun u hu e => hj2 ⟨u, hu, e⟩) i h1 h2) hi
end Go.Proofs.YtbpamkpclofnbaaGreat.MD
namespace Go.Proofs.YtbpamkpclofnbaaGreat
open MD
set_option linter.unusedVariables false
set_option linter.unusedSimpArgs false

theorem mono_le {c : Nat → Nat} {s : Nat} (h : ∀ u v, u < v → v < s → c u < c v) : ∀ d u, u + d < s → c u + d ≤ c (u + d)
  | 0, u, _ => Nat.le_refl _
  | d + 1, u, hd => by
    have h1 := mono_le h d u (by omega)
    have h2 := h (u + d) (u + (d + 1)) (by omega) hd
    omega
theorem mono_id {c : Nat → Nat} {s : Nat} (h : ∀ u v, u < v → v < s → c u < c v) (hb : ∀ u, u < s → c u < s) {u : Nat} (hu : u < s) : c u = u := by
  have h1 := mono_le h (s - 1 - u) u (by omega)
  have h2 := hb (u + (s - 1 - u)) (by omega)
  have h3 := mono_le h u 0 (by omega)
  rw [Nat.zero_add] at h3
  omega
/-- A column that is left out. -/
theorem miss {c : Nat → Nat} {s col : Nat} (h : ∀ u v, u < v → v < s → c u < c v) (hb : ∀ u, u < s → c u < col) (hs : s < col) :
    ∃ j, j < col ∧ ∃ c' : Nat → Nat, (∀ u, u < s → c u = dl j (c' u)) ∧ (∀ u v, u < v → v < s → c' u < c' v) ∧ ∀ u, u < s → c' u < col - 1 := by
  obtain ⟨j, hj, hm⟩ : ∃ j, j < col ∧ ∀ u, u < s → c u ≠ j := by
    by_cases hid : ∀ u, u < s → c u = u
    · exact ⟨s, hs, fun u hu => by rw [hid u hu]; omega⟩
    · obtain ⟨u0, h1, h2⟩ : ∃ u0, (u0 < s ∧ c u0 ≠ u0) ∧ ∀ u, u < u0 → c u = u := by
        obtain ⟨u, hu⟩ := Classical.not_forall.1 hid
        obtain ⟨hus, hne⟩ := Classical.not_imp.1 hu
        clear hu
        induction u using Nat.strongRecOn with
        | ind u ih =>
          by_cases hk : ∃ v, v < u ∧ c v ≠ v
          · obtain ⟨v, h1, h2⟩ := hk
            exact ih v h1 (by omega) h2
          · exact ⟨u, ⟨hus, hne⟩, fun v hv => Classical.byContradiction fun h3 => hk ⟨v, hv, h3⟩⟩
      refine ⟨u0, by omega, fun u hu => ?_⟩
      by_cases e : u < u0
      · rw [h2 u e]; omega
      · have h3 := mono_le h u0 0 (by omega)
        rw [Nat.zero_add] at h3
        by_cases e2 : u = u0
        · rw [e2]; exact h1.2
        · have := h u0 u (by omega) hu; omega
  refine ⟨j, hj, fun u => if c u < j then c u else c u - 1, fun u hu => ?_, fun u v huv hv => ?_, fun u hu => ?_⟩
  · have := hm u hu
    simp only [dl]
    by_cases e : c u < j
    · rw [if_pos e, if_pos e]
    · rw [if_neg e, if_neg (by omega)]; omega
  · have h1 := h u v huv hv
    have h2 := hm u (by omega); have h3 := hm v hv
    dsimp only
    split <;> split <;> omega
  · have h1 := hb u hu; have h2 := hm u hu
    dsimp only
    split <;> omega
/-- The sign of exchanges. -/
def sgo (o : Bool) : Int := if o then -1 else 1
theorem sgo_not (o : Bool) : sgo (!o) = -sgo o := by cases o <;> rfl
theorem Swd.det {n : Nat} {A B : Mx} {o : Bool} (h : Swd n A B o) (f : Nat → Nat) : MD.det n (fun i j => A i (f j)) = sgo o * MD.det n (fun i j => B i (f j)) := by
  induction h with
  | refl => simp [sgo]
  | swap h hi hk hik ih =>
    rename_i B o i k
    have e : (fun r c => sw B i k r (f c)) = sw (fun r c => B r (f c)) i k := by
      funext r c
      simp only [sw]
    rw [ih, e, (alt_det n).swap hik hi hk, sgo_not]
    grind
theorem min_sw {A : Mx} {r c s i k : Nat} (hi : i < r) (hk : k < r) (h : Min (sw A i k) r c s) : Min A r c s := by
  obtain ⟨ρ, γ, h1, h2, h3⟩ := h
  refine ⟨fun t => if ρ t = i then k else if ρ t = k then i else ρ t, γ, fun t ht => ?_, h2, ?_⟩
  · dsimp only
    have := h1 t ht
    split
    · exact hk
    · split
      · exact hi
      · exact this
  · rw [det_congr (B := fun t u => sw A i k (ρ t) (γ u)) fun t u _ _ => by
      simp only [sw]
      split
      · rfl
      · split <;> rfl]
    exact h3
theorem fac_sw {A : Mx} {r c s i k : Nat} (hi : i < r) (hk : k < r) (h : Fac (sw A i k) r c s) : Fac A r c s := by
  obtain ⟨d, C, R, hd, h1⟩ := h
  refine ⟨d, fun a u => C (if a = i then k else if a = k then i else a) u, R, hd, fun a b ha hb => ?_⟩
  rw [← h1 _ b (by split; exact hk; split; exact hi; exact ha) hb]
  congr 1
  simp only [sw]
  by_cases e1 : a = i
  · subst e1
    rw [if_pos rfl]
    by_cases e2 : k = a
    · subst e2; rw [if_pos rfl]
    · rw [if_neg e2, if_pos rfl]
  · rw [if_neg e1]
    by_cases e2 : a = k
    · subst e2; rw [if_pos rfl, if_pos rfl]
    · rw [if_neg e2, if_neg e1, if_neg e2]
theorem Swd.rk {n c s : Nat} {A B : Mx} {o : Bool} (h : Swd n A B o) : Rk B n c s → Rk A n c s := by
  induction h with
  | refl => exact id
  | swap h hi hk hik ih => exact fun k2 => ih ⟨min_sw hi hk k2.1, fac_sw hi hk k2.2⟩
/-- A vector that the rows make nothing of, out of a column without a pivot. -/
theorem null_vec {B gg : Mx} {s r m j : Nat} {c : Nat → Nat} {X : Int} (h : Bs B s c X gg) (hc : ∀ u, u < s → c u < m) (hi : ∀ u v, u < s → v < s → c u = c v → u = v) (hj : j < m) (hm : ∀ u, u < s → c u ≠ j)
    (hz : ∀ i, s ≤ i → i < r → gg i j = 0) : ∃ y : Nat → Int, y j = X ∧ (∀ k, k ≠ j → (∀ u, u < s → c u ≠ k) → y k = 0) ∧ ∀ i, i < r → (sm m fun k => B i k * y k) = 0 := by
  let w : Nat → Int := fun k => sm s fun u => if c u = k then gg u j else 0
  have w0 : ∀ k, (∀ u, u < s → c u ≠ k) → w k = 0 := fun k hk => sm_nil fun u hu => if_neg (hk u hu)
  have wc : ∀ u, u < s → w (c u) = gg u j := fun u hu => by
    show (sm s fun v => if c v = c u then gg v j else 0) = _
    rw [sm_one (j := u) hu fun v hv hvu => if_neg fun e => hvu (hi v u hv hu e), if_pos rfl]
  refine ⟨fun k => (if k = j then X else 0) + -1 * w k, ?_, fun k hk hk2 => ?_, fun i hir => ?_⟩
  · dsimp only; rw [if_pos rfl, w0 j hm]; omega
  · dsimp only; rw [if_neg hk, w0 k hk2]; rfl
  · have e1 : (sm m fun k => B i k * ((if k = j then X else 0) + -1 * w k)) = (sm m fun k => B i k * (if k = j then X else 0)) + -1 * sm m fun k => B i k * w k := by
      rw [← sm_mul, ← sm_add]; exact sm_congr fun k _ => by grind
    rw [e1, sm_one (j := j) hj fun k hk hkj => by rw [if_neg hkj, Int.mul_zero], if_pos rfl, sm_on hc hi fun k _ hk2 => w0 k hk2,
      sm_congr (g := fun u => B i (c u) * gg u j) fun u hu => by rw [wc u hu], ← h.dep hz hir]
    grind
section
variable {A B gg T : Mx} {n m s col gp : Nat} {ful o : Bool} {c : Nat → Nat} {X : Int} {pr : List Int}
theorem Rg.inj (h : Rg A n m ful B o s c X gg T pr col gp) : ∀ u v, u < s → v < s → c u = c v → u = v := fun u v hu hv e => by
  rcases Nat.lt_trichotomy u v with h1 | h1 | h1
  · have := h.mo u v h1 hv; omega
  · exact h1
  · have := h.mo v u h1 hu; omega
theorem Rg.none (h : Rg A n m ful B o s c X gg T pr col gp) {j : Nat} (hj : j < m) (hm : ∀ u, u < s → c u ≠ j) : pr.getD j 0 = -1 := by
  rcases h.pn j hj with h1 | ⟨u, hu, e⟩
  · exact h1
  · exact absurd e (hm u hu)
/-- A square matrix with pivots in all rows. -/
theorem Rg.det_full (h : Rg A n n ful B o n c X gg T pr col gp) : MD.det n A = sgo o * X := by
  have hid : ∀ u, u < n → c u = u := fun u hu => mono_id h.mo (fun v hv => Nat.lt_of_lt_of_le (h.pc v hv).1 h.cm) hu
  have h1 := h.sw.det id
  simp only [id] at h1
  rw [show (fun i j => A i j) = A from rfl, show (fun i j => B i j) = B from rfl] at h1
  rw [h1, ← h.bs.dt]
  congr 1
  exact det_congr fun i k _ hk => by rw [hid k hk]
/-- A square matrix with a column that depends on others. -/
theorem Rg.det_zero (h : Rg A n n ful B o s c X gg T pr col gp) (hs : s < col) : MD.det n A = 0 := by
  obtain ⟨j, hj, c', h1, _, _⟩ := miss h.mo (fun u hu => (h.pc u hu).1) hs
  have hm : ∀ u, u < s → c u ≠ j := fun u hu => by rw [h1 u hu]; exact dl_ne _ _
  have hjn : j < n := Nat.lt_of_lt_of_le hj h.cm
  obtain ⟨y, y1, _, y3⟩ := null_vec (r := n) h.bs (fun u hu => Nat.lt_of_lt_of_le (h.pc u hu).1 h.cm) h.inj hjn hm (h.zr j hj (h.none hjn hm))
  have h2 := det_null hjn (by rw [y1]; exact h.bs.ne) y3
  have h3 := h.sw.det id
  simp only [id] at h3
  rw [show (fun i j => A i j) = A from rfl, show (fun i j => B i j) = B from rfl, h2, Int.mul_zero] at h3
  exact h3
theorem Rg.rank (h : Rg A n m ful B o s c X gg T pr m gp) : Rk A n m s := by
  refine h.sw.rk (h.bs.rk h.sn (fun u hu => (h.pc u hu).1) fun j hj hm => h.zr j hj (h.none hj hm))
/-- The determinants without a column. -/
def crs (n : Nat) (A : Mx) (k : Nat) : Int := sg k * MD.det n (cut A k)
/-- Two columns depend on others: all of them are 0. -/
theorem Rg.crs_zero (h : Rg A n (n + 1) ful B o s c X gg T pr col gp) (hs : s + 1 < col) {k : Nat} (hk : k < n + 1) : crs n A k = 0 := by
  obtain ⟨j1, hj1, c', h1, h2, h3⟩ := miss h.mo (fun u hu => (h.pc u hu).1) (by omega : s < col)
  obtain ⟨j, hj, c'', h4, _, _⟩ := miss h2 h3 (by omega : s < col - 1)
  have hcm := h.cm
  have m1 : ∀ u, u < s → c u ≠ j1 := fun u hu => by rw [h1 u hu]; exact dl_ne _ _
  have m2 : ∀ u, u < s → c u ≠ dl j1 j := fun u hu => by
    rw [h1 u hu]; intro e
    exact dl_ne j (c'' u) (by rw [← h4 u hu]; exact dl_inj e)
  have hj2 : dl j1 j < col := by have := dl_bd (k := j1) hj; omega
  have hcb : ∀ u, u < s → c u < n + 1 := fun u hu => Nat.lt_of_lt_of_le (h.pc u hu).1 hcm
  obtain ⟨y, y1, y2, y3⟩ := null_vec (r := n) h.bs hcb h.inj (by omega) m1 (h.zr j1 hj1 (h.none (by omega) m1))
  obtain ⟨z, z1, z2, z3⟩ := null_vec (r := n) h.bs hcb h.inj (by omega) m2 (h.zr _ hj2 (h.none (by omega) m2))
  have h5 := cut_null h.bs.ne (by omega : j1 < n + 1) (by omega : dl j1 j < n + 1) y1 (y2 _ (dl_ne _ _) m2) (z2 _ (Ne.symm (dl_ne j1 j)) m1) z1 y3 z3 hk
  have h6 := h.sw.det (dl k)
  rw [show (fun i j => B i (dl k j)) = cut B k from rfl, h5, Int.mul_zero] at h6
  unfold crs
  rw [show cut A k = fun i j => A i (dl k j) from rfl, h6, Int.mul_zero]
/-- One column is left: what the others are. -/
theorem Rg.crs_full (h : Rg A n (n + 1) true B o n c X gg T pr col gp) (hs : n < col) : ∃ j, j < n + 1 ∧ pr.getD j 0 = -1 ∧ (∀ i, i < n + 1 → i ≠ j → ∃ u, u < n ∧ pr.getD i 0 = (u : Int) ∧ crs n A i = -(sg j * sgo o * T u j)) ∧ crs n A j = sg j * sgo o * X ∧ (∀ i, i < j → pr.getD i 0 ≠ -1) := by
  have hcm := h.cm
  obtain rfl : col = n + 1 := by omega
  obtain ⟨j, hj, c', h1, h2, h3⟩ := miss h.mo (fun u hu => (h.pc u hu).1) hs
  have hid : ∀ u, u < n → c' u = u := fun u hu => mono_id h2 (fun v hv => h3 v hv) hu
  have hc : ∀ u, u < n → c u = dl j u := fun u hu => by rw [h1 u hu, hid u hu]
  have hm : ∀ u, u < n → c u ≠ j := fun u hu => by rw [hc u hu]; exact dl_ne _ _
  obtain ⟨x1, x2⟩ := (h.bs.cols hc).cross hj
  have hsw : ∀ k, MD.det n (cut A k) = sgo o * MD.det n (cut B k) := fun k => h.sw.det (dl k)
  have hun : ∀ i, i < n + 1 → i ≠ j → ∃ u, u < n ∧ dl j u = i := fun i hi hij => by
    by_cases e : i < j
    · exact ⟨i, by omega, dl_lt e⟩
    · exact ⟨i - 1, by omega, by rw [dl_ge (by omega)]; omega⟩
  refine ⟨j, hj, h.none hj hm, fun i hi hij => ?_, ?_, fun i hi e => ?_⟩
  · obtain ⟨u, hu, rfl⟩ := hun i hi hij
    refine ⟨u, hu, by rw [← hc u hu]; exact (h.pc u hu).2, ?_⟩
    have h4 := h.eq u j hu hj (.inl rfl) (by rw [h.none hj hm]; decide)
    have h5 := x2 u hu
    unfold crs
    rw [hsw, h4]
    calc sg (dl j u) * (sgo o * MD.det n (cut B (dl j u))) = sgo o * (sg (dl j u) * MD.det n (cut B (dl j u))) := by grind
      _ = _ := by rw [h5]; grind
  · unfold crs
    rw [hsw, x1]; grind
  · obtain ⟨u, hu, rfl⟩ := hun i (by omega) (by omega)
    rw [← hc u hu, (h.pc u hu).2] at e
    omega
end
end Go.Proofs.YtbpamkpclofnbaaGreat
namespace Go.Proofs.YtbpamkpclofnbaaGreat
open Go.RowKit
open MP.Se (nf co)
set_option linter.unusedVariables false
set_option maxRecDepth 100000

theorem Fz.belowOf {P : Nat → Prop} {B : Nat} {W w' : World} (h : Fz P W w') (hB : B ≤ W.heap.size) (hp : ∀ x, P x → B ≤ x) : Below B W w' := ⟨h.os, h.tape, h.output, h.size, fun k hk => h.block k (Nat.lt_of_lt_of_le hk hB) (fun q => by have := hp k q; omega)⟩
/-- What an elimination has ended with. -/
def TrP (w' : World) (g n m J gaps : Nat) (ful : Bool) (A0 : MD.Mx) : Prop :=
  ∃ d p D C cap cm B o s c X gg T pr col gp b A nn cc, Nd g d p D n ∧ Ev w' g d p D C n cap m cm T pr ((s : Nat) : Int) b A nn cc o (kb J s) ∧ Zr w' b A nn cc X (kb J s) ∧
    Rg A0 n m ful B o s c X gg T pr col gp ∧ ((col = m ∧ gp ≤ gaps) ∨ (col ≤ m ∧ gp = gaps + 1))
theorem ent_tri1 : ∀ (args : Array Value) (w : World), (callFunc 138 args).run Tryz.prog w = .ok (.enter 138 args) w := enters_of Tryz.func138 (by kernel_rfl) rfl
set_option maxHeartbeats 4000000 in
theorem Mtriangle_any {w : World} {B n c J m gaps : Nat} {A : Option Addr} {M : List (List Int)} (h : Me w B A n c M J) (hr : Rt M n m) (hn : n ≤ 1000) (hm : m ≤ 100000) (hJ : 1 ≤ J) (hK : kb J n ≤ 900000) (hgp : gaps ≤ 100000) :
    Calls Tryz.prog 90 #[.slice A n c, .int .i64 (gaps : Int)] w fun e w' => ∃ g, e = .returned (.pointer (some ⟨g, 0, none⟩)) ∧ TrP w' g n m J gaps false (mx M) ∧ w.heap.size ≤ g ∧ Below w.heap.size w w' := by
  obtain ⟨hr1, hn1, hm1, hr4⟩ := hr
  have HR4 := Lib.hid hr4
  have hmM := hr4 0 (by omega)
  obtain ⟨d0, o0, A0, m0, c0, rfl, hd0, x_r, pe⟩ := h.row (k := 0) hn1
  obtain rfl : m0 = m := by rw [← pe.len]; exact hmM
  have q_r := x_r.al
  rw [Nat.add_zero] at q_r
  have hcp := h.2.cap
  clear hr4 hmM pe x_r
  go_enter Tryz.func90, Tryz.ntmps90
  go_wp2_with fail
  with_reducible refine (Mbegin_any h HR4.out (by omega) hn (by omega) hm hJ).mono ?_
  rintro e v1 ⟨g, d, p, D, C, cap, cm, b, A1, nn, cc, rfl, N, ev, z, ⟨hg, hd, hp, hD⟩, hb⟩
  have HN := Lib.hid N; have HD := Lib.hid hD
  have hgl := ev.e.lt; have hdl := ev.y.lt; have hpl := ev.i.lt
  have HDl : Hid (∀ i, i < n → D i < v1.heap.size) := Lib.hid fun i hi => (ev.r i hi).lt
  clear N hD h
  go_wp2_with fail
  refine al1c fun v2 hb1 x => ?_
  have x_e := Vc.of x
  obtain ⟨ev, z, hb2⟩ := mv3 hb1 ev z hb
  have hs2 := hb1.size
  clear x hb1
  have hR : Hid (∀ (v : World) (i s : Nat) (b : Bool) (A : Option Addr) (nn c : Nat) (o : Bool), i < n → Fz (Trn g d p D n) v2 v → Eb v g (some ⟨d, 0, none⟩) (some ⟨p, 0, none⟩) n cap m0 cm (s : Int) b A nn c o →
      Calls Tryz.prog 138 (#[.int .i64 (i : Int)] ++ #[.pointer (some ⟨v1.heap.size, 0, none⟩)]) v fun e w' => e = .returned (.bool (rho false s i)) ∧ Below v.heap.size v w') :=
    Lib.hid fun v i s b A nn c o hi hf he => (Mtri1_any (x_e.via hf (by rintro (h | h | h | ⟨j, hj, h⟩); omega; omega; omega; have := HDl.out j hj; omega)) he).mono fun e w' h => by
      obtain ⟨h1, h2⟩ := h
      refine ⟨h1.trans ?_, h2⟩
      simp [rho]
  go_wp2_with fail
  with_reducible refine (Mrun_any (ful := false) HN.out ev z hK hn hm hgp ent_tri1 hR.out).mono ?_
  rintro e v3 ⟨rfl, D', C', B', o', s', c', X', gg, T, pr, col, gp, b', A', nn', cc', N', hDD, ev', z', rg, hcol, hf⟩
  have x_e3 := x_e.via hf (by rintro (h | h | h | ⟨j, hj, h⟩); omega; omega; omega; have := HDl.out j hj; omega)
  have q_e := x_e3.al
  have hb3 := hb2.trans (hf.belowOf hb2.size (by rintro x (h | h | h | ⟨j, hj, h⟩); omega; omega; omega; have := HD.out j hj; omega))
  have HT : Hid (TrP v3 g n m0 J gaps false (mx M)) := Lib.hid ⟨_, _, D', C', cap, cm, B', o', s', c', X', gg, T, pr, col, gp, b', A', nn', cc', N', ev', z', rg, hcol⟩
  clear ev z ev' z' rg hcol N' hDD hf hR x_e x_e3 hb2 hb
  go_wp2
  go_ret
  exact ⟨g, rfl, HT.out, hg, hb3⟩
end Go.Proofs.YtbpamkpclofnbaaGreat
namespace Go.Proofs.YtbpamkpclofnbaaGreat
open Go.RowKit
open MP.Se (nf co)
set_option linter.unusedVariables false
set_option maxRecDepth 100000

theorem zn_nil0 (w : World) (k : Nat) : Zn w none 0 0 0 k := ⟨by show Rd w w.heap.size none 0 0 (dg Wd 0); rw [dg_zero]; exact Rd.nil, Nat.zero_le _⟩
theorem kb_le {J s n : Nat} (h : s ≤ n) : kb J s ≤ kb J n := kb_mono h
/-- What Det tells. -/
def DtP (w : World) (M : List (List Int)) (n K : Nat) (e : Ending) (w' : World) : Prop := Below w.heap.size w w' ∧
  ((¬ Rt M n n ∧ e = .returned (.tuple #[.agg #[.bool false, .slice none 0 0], .int .i64 1])) ∨
   (Rt M n n ∧ ∃ A k c, e = .returned (.tuple #[.agg #[.bool (ngB (MD.det n (mx M))), .slice A k c], .int .i64 0]) ∧ Zn w' A k c (MD.det n (mx M)) K))
set_option maxHeartbeats 4000000 in
theorem MDet_any {w : World} {n c J : Nat} {A : Option Addr} {M : List (List Int)} (h : Md w w.heap.size A n c M J) (hn : n ≤ 1000) (hJ : 1 ≤ J) (hK : kb J n ≤ 900000) :
    Calls Tryz.prog 35 #[.slice A n c] w (DtP w M n (kb J n)) := by
  have hl := h.len
  replace h := h.me
  go_enter Tryz.func35, Tryz.ntmps35
  go_wp2_with fail
  refine al1c fun v0 hb x => ?_
  have x_o := Bx.of x
  replace h := h.keep hb
  with_reducible refine (Msquare_any h.md).mono ?_
  rintro e v1 ⟨hsq, hb1⟩
  obtain ⟨h, x_o, hb⟩ := mv3 hb1 h x_o hb
  clear hb1 x
  have q_o := x_o.al
  rcases hsq with ⟨rfl, hR⟩ | ⟨rfl, hR⟩
  · have HR := Lib.hid hR
    clear hR
    go_wp2_with fail
    refine (Mtriangle_any (gaps := 0) h HR.out hn (by omega) hJ hK (by omega)).mono ?_
    rintro e v2 ⟨g, rfl, ⟨d, p, D, C, cap, cm, B', o, s, c', X, gg, T, pr, col, gp, b, A1, nn, cc, N, ev, z, rg, hcol⟩, hgf, hb1⟩
    have hgo : g ≠ w.heap.size := by have := x_o.lt; omega
    obtain ⟨x_o, hb⟩ := mv2 hb1 x_o hb
    replace q_o := x_o.al
    have q2 := ev.e.c2; have q3 := ev.e.c3; have q4 := ev.e.c4; have q5 := ev.e.c5
    have hsn := rg.sn
    rcases (show s < n ∨ s = n by omega) with hs | hs
    · have hd : MD.det n (mx M) = 0 := rg.det_zero (by have := rg.ct; have := rg.cm; omega)
      have HD := Lib.hid hd
      clear hd rg hcol N ev z h hb1
      go_wp2
      refine x_o.st fun v3 hs3 hx => ?_
      have q_x := hx.al
      have hb3 : Below w.heap.size w v3 := ms1 hs3 (Nat.le_refl _) hb
      refine bodyPost_ret (v := .tuple #[.agg #[.bool false, .slice none 0 0], .int .i64 0]) (by simp [results, Tryz.results35, go_sem, q_x]) rfl ?_
      refine ⟨hb3, .inr ⟨HR.out, none, 0, 0, ?_, ?_⟩⟩
      · rw [HD.out]; rfl
      · rw [HD.out]; exact zn_nil0 _ _
    · subst hs
      have hd : MD.det s (mx M) = if o then -X else X := by rw [rg.det_full]; cases o <;> simp [sgo]
      have HD := Lib.hid hd
      have z' := z.kto (kb_le (J := J) hsn)
      have x_v := ev.e
      clear hd rg hcol N ev z h hb1
      go_upto_region 6 with fail
      go_region_held3 (fun w' => w'.cell? ⟨g, 3, none⟩ = some (.bool b) ∧ w'.cell? ⟨g, 4, none⟩ = some (.slice A1 nn cc) ∧ w'.cell? ⟨g, 5, none⟩ = some (.bool o))
        (first | (with_reducible exact ⟨x_v.c3, x_v.c4, x_v.c5⟩) | (with_reducible exact ⟨asd hgo x_v.c3, asd hgo x_v.c4, asd hgo x_v.c5⟩) | go_keep)
        (first | (go_at_call 91; (with_reducible refine (Msigned_any (Zr.drw z') (by omega)).mono ?_); rintro e v3 ⟨A5, n5, c5, rfl, z5, hb1⟩; replace hb1 := undrew hb1; obtain ⟨x_o, x_v, hb⟩ := mv3 hb1 x_o x_v hb; replace q_o := x_o.al; rw [← HD.out] at z5 ⊢))
      clear q2 q3 q4 q5
      go_wp2
      refine x_o.st fun v4 hs3 hx => ?_
      have q_x := hx.al
      have hb3 : Below w.heap.size w v4 := ms1 hs3 (Nat.le_refl _) hb
      have z6 : Zn v4 A5 n5 c5 (MD.det s (mx M)) (kb J s) := Ms.ms hs3 trivial z5
      refine bodyPost_ret (v := .tuple #[.agg #[.bool (ngB (MD.det s (mx M))), .slice A5 n5 c5], .int .i64 0]) (by simp [results, Tryz.results35, go_sem, q_x]) rfl ?_
      exact ⟨hb3, .inr ⟨HR.out, _, _, _, rfl, z6⟩⟩
  · have HR := Lib.hid hR
    clear hR h
    go_wp2
    refine x_o.st fun v4 hs3 hx => ?_
    have q_x := hx.al
    have hb3 : Below w.heap.size w v4 := ms1 hs3 (Nat.le_refl _) hb
    refine bodyPost_ret (v := .tuple #[.agg #[.bool false, .slice none 0 0], .int .i64 1]) (by simp [results, Tryz.results35, go_sem, q_x]) rfl ?_
    exact ⟨hb3, .inl ⟨HR.out, rfl⟩⟩
/-- What Rank tells. -/
def RkP (w : World) (M : List (List Int)) (n : Nat) (e : Ending) (w' : World) : Prop := Below w.heap.size w w' ∧
  (((∀ m, ¬ Rt M n m) ∧ e = .returned (.tuple #[.int .i64 0, .int .i64 1])) ∨ ∃ m s : Nat, Rt M n m ∧ MD.Rk (mx M) n m s ∧ e = .returned (.tuple #[.int .i64 (s : Int), .int .i64 0]))
set_option maxHeartbeats 4000000 in
theorem MRank_any {w : World} {n c J : Nat} {A : Option Addr} {M : List (List Int)} (h : Md w w.heap.size A n c M J) (hn : n ≤ 1000) (hJ : 1 ≤ J) (hK : kb J n ≤ 900000) :
    Calls Tryz.prog 37 #[.slice A n c] w (RkP w M n) := by
  have hl := h.len
  replace h := h.me
  go_enter Tryz.func37, Tryz.ntmps37
  go_wp2_with fail
  with_reducible refine (MRight_any h.md).mono ?_
  rintro e v1 ⟨β, rfl, hR, hb⟩
  replace h := h.keep hb
  rcases hR with ⟨rfl, m, hR, hm⟩ | ⟨rfl, hR⟩
  · have HR := Lib.hid hR
    obtain ⟨hr1, hn1, hm1, hr4⟩ := hR
    have hmM := hr4 0 (by omega)
    obtain ⟨d0, o0, A0, m0, c0, rfl, hd0, x_r, pe⟩ := h.row (k := 0) hn1
    obtain rfl : m0 = m := by rw [← pe.len]; exact hmM
    have q_r := x_r.al
    rw [Nat.add_zero] at q_r
    have hcp := h.2.cap
    clear hr4 hmM pe x_r
    go_wp2_with fail
    with_reducible refine (Mtriangle_any (gaps := m0) h HR.out hn (by omega) hJ hK (by omega)).mono ?_
    rintro e v2 ⟨g, rfl, ⟨d, p, D, C, cap, cm, B', o, s, c', X, gg, T, pr, col, gp, b, A1, nn, cc, N, ev, z, rg, hcol⟩, hgf, hb1⟩
    replace hb := bthen hb hb1
    have q2 := ev.e.c2
    obtain rfl : col = m0 := by have := rg.ct; omega
    have HK := Lib.hid rg.rank
    clear rg hcol N ev z h hb1 q_r
    go_wp2
    go_ret2
    exact ⟨hb, .inr ⟨_, s, HR.out, HK.out, rfl⟩⟩
  · have HR := Lib.hid hR
    clear hR h
    go_wp2
    go_ret2
    exact ⟨hb, .inl ⟨fun m => HR.out n m, rfl⟩⟩
end Go.Proofs.YtbpamkpclofnbaaGreat
namespace Go.Proofs.YtbpamkpclofnbaaGreat
open Go.RowKit
set_option linter.unusedVariables false
set_option maxRecDepth 100000

theorem Sindex_any {w : World} {g n c j : Nat} {l : List Int} {X : Int} (x : Bi w g l) (hl : l.length = n) (hj : j < n) (hn : n ≤ 100000) (hv : l.getD j 0 = X) (hf : ∀ i, i < j → l.getD i 0 ≠ X) :
    Calls Tryz.prog 141 #[.slice (some ⟨g, 0, none⟩) n c, .int .i64 X] w fun e w' => e = .returned (.int .i64 (j : Int)) ∧ Below w.heap.size w w' := by
  have HV := Lib.hid hv; have HF := Lib.hid hf; have HL := Lib.hid hl; have HX := Lib.hid x
  clear hv hf hl x
  go_enter Tryz.func141, Tryz.ntmps141
  go_wp2_with fail
  go_loopw [8] (fun kv wr => ∃ k : Nat, k ≤ j ∧ kv = .int .i64 (k : Int) ∧ Below w.heap.size w wr) (fun kv _ => n - (intOf kv).toNat)
  case atStart => exact ⟨0, by omega, rfl, Below.refl _ _⟩
  case round =>
    obtain ⟨k, hk, rfl, hb⟩ := hrel
    have hkn : k < n := by omega
    have q := ((HX.out.keep hb).at_ (k := k) (by rw [HL.out]; exact hkn)).al
    have e : l[k]'(by rw [HL.out]; exact hkn) = l.getD k 0 := by simp [List.getD, HL.out, hkn]
    rw [e] at q
    rcases (show k = j ∨ k < j by omega) with h | h
    · subst h
      rw [HV.out] at q
      go_wp2
      go_ret
      exact ⟨rfl, hb⟩
    · have hne := HF.out k h
      have hne2 : (X == l.getD k 0) = false := by simpa using fun e => hne e.symm
      obtain ⟨Y, hY⟩ : ∃ Y, l.getD k 0 = Y := ⟨_, rfl⟩
      rw [hY] at q hne2
      clear hne e hY
      go_wp2_with fail
      exact ⟨⟨k + 1, by omega, by go_num, hb⟩, by simp [intOf]; omega⟩
end Go.Proofs.YtbpamkpclofnbaaGreat
namespace Go.Proofs.YtbpamkpclofnbaaGreat
open Go.RowKit
open MP.Se (nf co)
set_option linter.unusedVariables false
set_option maxRecDepth 100000

theorem Ev.sto {W v : World} {g d p n cap m cm nn c J q : Nat} {D C : Nat → Nat} {T : Nat → Nat → Int} {pr : List Int} {s : Int} {b o : Bool} {A : Option Addr} (h : Ev W g d p D C n cap m cm T pr s b A nn c o J) (hg : g ≠ q) (hd : d ≠ q) (hp : p ≠ q) (hD : ∀ i, i < n → D i ≠ q) (st : Sto W q v) : Ev v g d p D C n cap m cm T pr s b A nn c o J :=
  ⟨h.e.sto hg st, h.y.to (st.block _ hd), h.i.sto hp st, fun a ha => (h.r a ha).sto (hD a ha) st⟩
/-- The first m numbers f. -/
def lsN (m : Nat) (f : Nat → Int) : List Int := (List.range m).map f
theorem lsN_len (m : Nat) (f : Nat → Int) : (lsN m f).length = m := by simp [lsN]
theorem lsN_at {m k : Nat} {f : Nat → Int} (h : k < (lsN m f).length) : (lsN m f)[k] = f k := by simp [lsN]
theorem lsN_getD {m k : Nat} {f : Nat → Int} (h : k < m) : (lsN m f).getD k 0 = f k := by simp [lsN, List.getD, h]
theorem ent_cro1 : ∀ (args : Array Value) (w : World), (callFunc 140 args).run Tryz.prog w = .ok (.enter 140 args) w := enters_of Tryz.func140 (by kernel_rfl) rfl
set_option maxHeartbeats 8000000 in
theorem Mcross_any {w : World} {B n m c J : Nat} {A : Option Addr} {M : List (List Int)} (h : Me w B A n c M J) (hm : m = n + 1) (hr : ∀ k (hk : k < M.length), M[k].length = m) (hn1 : 1 ≤ n) (hn : n ≤ 1000) (hJ : 1 ≤ J) (hK : kb J n ≤ 900000) :
    Calls Tryz.prog 95 #[.slice A n c] w (OutP w (lsN m (crs n (mx M))) (kb J n)) := by
  have HR := Lib.hid hr
  have hl := h.len
  have hw : IntKind.i64.wrap ((n : Int) + 1) = (m : Int) := by rw [i64_keep (by omega) (by omega)]; omega
  obtain ⟨L, hL⟩ : ∃ L, lsN m (crs n (mx M)) = L := ⟨_, rfl⟩
  rw [hL]
  have HL := Lib.hid hL; have HM := Lib.hid hm
  have hm1 : 1 ≤ m := by omega
  have hm2 : m ≤ 1001 := by omega
  clear hr hL hm
  go_enter Tryz.func95, Tryz.ntmps95
  go_wp2_with (at_make; refine wp_makeR rfl _ _ rfl m (kb J n) _ _ rfl rfl rfl rfl (by omega) ?_; intro v1 p_o hb)
  replace h := h.keep hb
  have hwo : w.heap.size < v1.heap.size := p_o.lt
  with_reducible refine (Mbegin_any h HR.out hn1 hn hm1 (by omega) hJ).mono ?_
  rintro e v2 ⟨g, d, p, D, C, cap, cm, b, A1, nn, cc, rfl, N, ev, z, ⟨hg, hd, hp, hD⟩, hb1⟩
  have HN := Lib.hid N; have HD := Lib.hid hD
  have hgl := ev.e.lt; have hdl := ev.y.lt; have hpl := ev.i.lt
  have HDl : Hid (∀ i, i < n → D i < v2.heap.size) := Lib.hid fun i hi => (ev.r i hi).lt
  obtain ⟨p_o, hb⟩ := mv2 hb1 p_o hb
  clear N hD h hb1
  go_wp2_with fail
  refine al1c fun v3 hb1 x => ?_
  have x_e := Vc.of x
  obtain ⟨ev, z, p_o, hb⟩ := mv4 hb1 ev z p_o hb
  have hs2 := hb1.size
  clear x hb1
  have hR : Hid (∀ (v : World) (i s : Nat) (b : Bool) (A : Option Addr) (nn c : Nat) (o : Bool), i < n → Fz (Trn g d p D n) v3 v → Eb v g (some ⟨d, 0, none⟩) (some ⟨p, 0, none⟩) n cap m cm (s : Int) b A nn c o →
      Calls Tryz.prog 140 (#[.int .i64 (i : Int)] ++ #[.pointer (some ⟨v2.heap.size, 0, none⟩)]) v fun e w' => e = .returned (.bool (rho true s i)) ∧ Below v.heap.size v w') :=
    Lib.hid fun v i s b A nn c o hi hf he => (Mcro1_any (x_e.via hf (by rintro (h | h | h | ⟨j, hj, h⟩); omega; omega; omega; have := HDl.out j hj; omega)) he).mono fun e w' h => by
      obtain ⟨h1, h2⟩ := h
      refine ⟨h1.trans ?_, h2⟩
      have : ((i : Int) == (s : Int)) = decide (i = s) := by
        by_cases e : i = s
        · simp [e]
        · simp [e]; omega
      rw [this]; rfl
  refine (Mrun_any (ful := true) (gaps := 1) HN.out ev z hK hn (by omega) (by omega) ent_cro1 hR.out).mono ?_
  rintro e v4 ⟨rfl, D', C', B', o', s', c', X', gg, T, pr, col, gp, b', A', nn', cc', N', hDD, ev', z', rg, hcol, hf⟩
  have x_e4 := x_e.via hf (by rintro (h | h | h | ⟨j, hj, h⟩); omega; omega; omega; have := HDl.out j hj; omega)
  have hb4 := hb.trans (hf.belowOf hb.size (by rintro x (h | h | h | ⟨j, hj, h⟩); omega; omega; omega; have := HD.out j hj; omega))
  have p_o4 := p_o.via hf (by rintro (h | h | h | ⟨j, hj, h⟩); omega; omega; omega; have := HD.out j hj; omega)
  clear p_o x_e ev z hb hf hR
  have q_e := x_e4.al; have q2 := ev'.e.c2
  have hsn := rg.sn
  rcases (show s' < n ∨ n = s' by omega) with hs | hs
  · have hz : List.replicate m 0 = L := by
      rw [← HL.out]
      refine List.ext_getElem (by simp [lsN_len]) fun k h1 h2 => ?_
      rw [lsN_at, List.getElem_replicate]
      rw [lsN_len] at h2
      have r := rg
      rw [HM.out] at r
      exact (r.crs_zero (by have := rg.ct; have := HM.out; omega) (by have := HM.out; omega)).symm
    rw [hz] at p_o4
    have hp2 := p_o4.po (B := w.heap.size) (Nat.le_refl _)
    have hlL : L.length = m := by rw [← hz]; simp
    rw [hlL] at hp2
    have HP := Lib.hid hp2; have HB := Lib.hid hb4
    clear hz hp2 hlL p_o4 hb4 rg hcol N' ev' z'
    go_wp2
    go_ret
    exact ⟨_, _, _, rfl, HP.out, HB.out⟩
  · subst hs
    have HC : Hid (∃ j, j < m ∧ pr.getD j 0 = -1 ∧ (∀ i, i < m → i ≠ j → ∃ u, u < n ∧ pr.getD i 0 = (u : Int) ∧ crs n (mx M) i = -(MD.sg j * sgo o' * T u j)) ∧ crs n (mx M) j = MD.sg j * sgo o' * X' ∧ (∀ i, i < j → pr.getD i 0 ≠ -1)) :=
      Lib.hid (by have r := rg; rw [HM.out] at r ⊢; exact r.crs_full (by have := rg.ct; have := HM.out; omega))
    have hlp := rg.len
    obtain ⟨j, hj, hpj, hoth, hjX, hfst⟩ := HC.out
    have HO := Lib.hid hoth; have HX := Lib.hid hjX; have HF := Lib.hid hfst; have HJ := Lib.hid hpj; have HLP := Lib.hid hlp; have HN' := Lib.hid N'
    have q1 := ev'.e.c1
    clear hoth hjX hfst hpj hcol N' HC rg hlp
    go_wp2_with fail
    with_reducible refine (Sindex_any ev'.i HLP.out hj (by omega) HJ.out HF.out).mono ?_
    rintro e v5 ⟨rfl, hb1⟩
    obtain ⟨ev, z, p_o, x_e, hb⟩ := mv5 hb1 ev' z' p_o4 x_e4 hb4
    clear ev' z' p_o4 x_e4 hb4 hb1 q1 q2 q_e
    have q_e := x_e.al; have q5 := ev.e.c5; have q1 := ev.e.c1
    obtain ⟨ng, hng⟩ : ∃ β, (!o' == ((j : Int) % 2 == 1)) = β := ⟨_, rfl⟩
    have HNG : Hid (∀ Y : Int, (if ng then -Y else Y) = MD.sg j * sgo o' * Y) := Lib.hid fun Y => by
      rw [← hng]
      unfold MD.sg sgo
      rcases Nat.mod_two_eq_zero_or_one j with h | h
      · have : (j : Int) % 2 = 0 := by omega
        cases o' <;> simp [h, this]
      · have : (j : Int) % 2 = 1 := by omega
        cases o' <;> simp [h, this]
    have HDp : Hid (∀ i, i < n → D' i ≠ w.heap.size) := Lib.hid fun i hi e => by obtain ⟨k, hk, e2⟩ := hDD i hi; have := HD.out k hk; omega
    clear hDD
    have hge : v2.heap.size ≠ w.heap.size := by omega
    have hgo : g ≠ w.heap.size := by omega
    have hdo : d ≠ w.heap.size := by omega
    have hpo : p ≠ w.heap.size := by omega
    have hr0 : ∃ L1, Pw v5 w.heap.size L1 (kb J n) ∧ L1.length = m ∧ ∀ k, k < 0 → L1.getD k 0 = crs n (mx M) k := ⟨_, p_o, by simp, fun k hk => by omega⟩
    clear p_o
    go_wp2_with fail
    go_loopw [46] (fun kv wr => ∃ i : Nat, i ≤ m ∧ kv = .int .i64 (i : Int) ∧ (∃ L1, Pw wr w.heap.size L1 (kb J n) ∧ L1.length = m ∧ ∀ k, k < i → L1.getD k 0 = crs n (mx M) k) ∧ Ev wr g d p D' C' n cap m cm T pr ((n : Nat) : Int) b' A' nn' cc' o' (kb J n) ∧ Zr wr b' A' nn' cc' X' (kb J n) ∧ Vc wr v2.heap.size 0 (.pointer (some ⟨g, 0, none⟩)) ∧ Below w.heap.size w wr) (fun kv _ => m - (intOf kv).toNat)
    case atStart => exact ⟨0, by omega, rfl, hr0, ev, z, x_e, hb⟩
    case round =>
      clear hr0 ev z x_e hb q_e q5 q1
      obtain ⟨i, hi, rfl, ⟨L1, p_o, hL1, hL2⟩, ev, z, x_e, hb⟩ := hrel
      have HL1 := Lib.hid hL1; have HL2 := Lib.hid hL2
      clear hL1 hL2
      rcases (show m = i ∨ i < m by omega) with him | him
      · subst him
        have hLe : L1 = L := by
          rw [← HL.out]
          refine List.ext_getElem (by rw [lsN_len]; exact HL1.out) fun k h1 h2 => ?_
          rw [lsN_at, ← HL2.out k (by rw [← HL1.out]; exact h1)]
          simp [List.getD, h1]
        subst hLe
        have hp2 := p_o.po (B := w.heap.size) (Nat.le_refl _)
        rw [HL1.out] at hp2
        have HP := Lib.hid hp2
        clear hp2 p_o ev z x_e
        go_wp2
        go_ret
        exact ⟨_, _, _, rfl, HP.out, hb⟩
      · have hil : i < pr.length := by rw [HLP.out]; exact him
        have q_i := (ev.i.at_ hil).al
        have hpe : pr[i] = pr.getD i 0 := by simp [List.getD, hil]
        rw [hpe] at q_i
        clear hpe
        have hiL : i < L1.length := by rw [HL1.out]; exact him
        obtain ⟨At, nt, ct, x_t, _⟩ := p_o.ec hiL
        have q_t := x_t.al; have f_t := And.intro (p_o.fr (i * 2)) (p_o.fr (i * 2 + 1))
        have q_e := x_e.al
        have HY : Hid (∀ k, k < i + 1 → (L1.set i (crs n (mx M) i)).getD k 0 = crs n (mx M) k) := Lib.hid fun k hk => by
          rw [set_getD hiL]
          split
          · next e => rw [e]
          · exact HL2.out k (by omega)
        by_cases hij : i = j
        · subst hij
          rw [HJ.out] at q_i
          have hv : (if ng then -X' else X') = crs n (mx M) i := by rw [HNG.out, HX.out]
          have HV := Lib.hid hv
          have q3 := ev.e.c3; have q4 := ev.e.c4
          clear hv
          go_wp2_with fail
          with_reducible refine (Msigned_any (β := ng) z (by omega)).mono ?_
          rintro e v6 ⟨A6, n6, c6, rfl, z6, hb1⟩
          rw [HV.out] at z6 ⊢
          obtain ⟨ev, z, x_e, p_o, x_t, hb⟩ := mv6 hb1 ev z x_e p_o x_t hb
          replace q_t := x_t.al; replace f_t := And.intro (p_o.fr (i * 2)) (p_o.fr (i * 2 + 1))
          clear q_e q_i hb1 q3 q4
          generalize crs n (mx M) i = Y at *
          go_wp2_with fail
          obtain ⟨hs, hx⟩ := p_o.set (k := i) hiL z6
          exact ⟨⟨i + 1, by omega, by go_num, ⟨_, hx, by rw [List.length_set]; exact HL1.out, HY.out⟩, ev.sto hgo hdo hpo HDp.out hs, Ms.ms hs trivial z, x_e.sto hge hs, ms1 hs (Nat.le_refl _) hb⟩, by simp [intOf]; omega⟩
        · obtain ⟨u, hu, hpu, hcu⟩ := HO.out i him hij
          rw [hpu] at q_i
          have hv : (if !ng then -(T u j) else T u j) = crs n (mx M) i := by
            rw [hcu, ← HNG.out]
            cases ng <;> simp
          have HV := Lib.hid hv
          obtain ⟨b8, A8, n8, c8, x_el, z_el⟩ := ev.el hu hj
          have q0 := ev.e.c0; have q_r := ev.row hu; have q_el := x_el.al
          have hne : ((i : Int) == (j : Int)) = false := by simpa using fun e => hij (by omega)
          clear hv hpu hcu
          go_wp2_with fail
          with_reducible refine (Msigned_any (β := !ng) z_el (by omega)).mono ?_
          rintro e v6 ⟨A6, n6, c6, rfl, z6, hb1⟩
          rw [HV.out] at z6 ⊢
          obtain ⟨ev, z, x_e, p_o, x_t, hb⟩ := mv6 hb1 ev z x_e p_o x_t hb
          replace q_t := x_t.al; replace f_t := And.intro (p_o.fr (i * 2)) (p_o.fr (i * 2 + 1))
          clear q_e q_i hb1 q0 q_r q_el x_el z_el
          generalize crs n (mx M) i = Y at *
          go_wp2_with fail
          obtain ⟨hs, hx⟩ := p_o.set (k := i) hiL z6
          exact ⟨⟨i + 1, by omega, by go_num, ⟨_, hx, by rw [List.length_set]; exact HL1.out, HY.out⟩, ev.sto hgo hdo hpo HDp.out hs, Ms.ms hs trivial z, x_e.sto hge hs, ms1 hs (Nat.le_refl _) hb⟩, by simp [intOf]; omega⟩
end Go.Proofs.YtbpamkpclofnbaaGreat
namespace Go.Proofs.YtbpamkpclofnbaaGreat
open Go.RowKit
open MP.Se (nf co)
set_option linter.unusedVariables false
set_option maxRecDepth 100000

/-- A new elimination of no rows. -/
def Bg0P (w : World) (e : Ending) (w' : World) : Prop := ∃ g p b A1 nn cc, e = .returned (.pointer (some ⟨g, 0, none⟩)) ∧ Eb w' g none (some ⟨p, 0, none⟩) 0 0 1 1 0 b A1 nn cc false ∧ Bi w' p [-1] ∧ Zr w' b A1 nn cc 1 1 ∧ (w.heap.size ≤ g ∧ w.heap.size ≤ p ∧ g ≠ p) ∧ Below w.heap.size w w'
theorem Mbegin0_any {w : World} : Calls Tryz.prog 136 #[.slice none 0 0, .int .i64 1] w (Bg0P w) := by
  go_enter Tryz.func136, Tryz.ntmps136
  go_wp2_with fail
  with_reducible refine (ZOf_any 1 (by omega) (by omega)).mono ?_
  rintro e v1 ⟨A9, n9, c9, rfl, z9, hb⟩
  go_wp2_with fail
  refine al1c fun v2 hb1 x => ?_
  have x_i := Bi.one x
  obtain ⟨z9, hb⟩ := mv2 hb1 z9 hb
  clear hb1 x
  refine (Srepeat_any (n := 1) x_i (by omega) (by omega)).mono ?_
  rintro e v3 ⟨p, rfl, hp, x_p, hb1⟩
  replace hp : w.heap.size ≤ p := Nat.le_trans hb.size hp
  obtain ⟨z9, hb⟩ := mv2 hb1 z9 hb
  clear hb1 x_i
  go_upto_region 2 with fail
  have hgb := hb.size
  refine al1 fun v4 hb1 x => ?_
  have x_e : Eb v4 v3.heap.size none (some ⟨p, 0, none⟩) 0 0 1 1 0 (ngB 1) A9 n9 c9 false := x
  have hpl := x_p.lt
  obtain ⟨z9, x_p, hb⟩ := mv3 hb1 z9 x_p hb
  clear hb1 x
  go_wp2_with fail
  have hw0 : v4 = v4 := rfl
  go_loopw [16] (fun kv wr => kv = .int .i64 0 ∧ wr = v4) (fun _ _ => 0)
  case atStart => exact ⟨rfl, rfl⟩
  case round =>
  obtain ⟨rfl, rfl⟩ := hrel
  go_wp2
  go_ret
  exact ⟨_, p, _, A9, n9, c9, rfl, x_e, x_p, z9.zr, ⟨hgb, hp, by omega⟩, hb⟩
theorem Mrun0_any {w : World} {g p nn cc fR : Nat} {b : Bool} {A : Option Addr} {cR : Array Value} (he : Eb w g none (some ⟨p, 0, none⟩) 0 0 1 1 0 b A nn cc false) (hi : Bi w p [-1]) :
    Calls Tryz.prog 137 #[.pointer (some ⟨g, 0, none⟩), .int .i64 1, .func (.func fR) #[] cR] w fun e w' => e = .returned (.tuple #[]) ∧ Below w.heap.size w w' := by
  have hgl := he.lt
  go_enter Tryz.func137, Tryz.ntmps137
  go_upto_region 1 with fail
  refine al1 fun v1 hb x_e => ?_
  replace x_e := Vc.of x_e
  replace he := he.keep hb
  have q_e := x_e.al; have q0 := he.c0; have q1 := he.c1; have q2 := he.c2
  go_wp2_with fail
  go_step3
  go_wp2_with fail
  go_step3
  go_wp2_with fail
  go_loopg [15, 1] 1 (fun gh kv gv wr => ((gh = 1 ∧ kv = .int .i64 0 ∧ gv = .int .i64 1) ∨ (gh = 0 ∧ kv = .int .i64 1 ∧ gv = .int .i64 0)) ∧ Eb wr g none (some ⟨p, 0, none⟩) 0 0 1 1 0 b A nn cc false ∧ Vc wr w.heap.size 0 (.pointer (some ⟨g, 0, none⟩)) ∧ Below w.heap.size w wr)
  case atStart => exact ⟨.inl ⟨rfl, rfl, rfl⟩, he, x_e, hb⟩
  case round =>
    clear he x_e hb q_e q0 q1 q2
    obtain ⟨hc, he, x_e, hb⟩ := hrel
    rcases hc with ⟨rfl, rfl, rfl⟩ | ⟨rfl, rfl, rfl⟩
    · have q_e := x_e.al; have q0 := he.c0; have q2 := he.c2
      go_wp2_with fail
      go_loopg [8] 0 (fun gi rv wx => rv = .int .i64 0 ∧ Eb wx g none (some ⟨p, 0, none⟩) 0 0 1 1 0 b A nn cc false ∧ Vc wx w.heap.size 0 (.pointer (some ⟨g, 0, none⟩)) ∧ Below w.heap.size w wx)
      case atStart => exact ⟨rfl, he, x_e, hb⟩
      case round =>
        clear he x_e hb q_e q0 q2
        obtain ⟨rfl, he, x_e, hb⟩ := hrel
        have q_e := x_e.al; have q0 := he.c0
        go_wp2_with fail
        go_roundg 0
        case measure => omega
        case rel => exact ⟨.inr ⟨rfl, rfl, rfl⟩, he, x_e, hb⟩
    · go_wp2_with fail
      simp only [Exit.noGoto]
      go_end0
      exact ⟨rfl, hb⟩
theorem Mcross0_any {w : World} : Calls Tryz.prog 95 #[.slice none 0 0] w (OutP w [1] 1) := by
  go_enter Tryz.func95, Tryz.ntmps95
  go_wp2_with (at_make; refine wp_makeR rfl _ _ rfl 1 1 _ _ rfl rfl rfl rfl (by omega) ?_; intro v1 p_o hb)
  have hwo : w.heap.size < v1.heap.size := p_o.lt
  refine (Mbegin0_any).mono ?_
  rintro e v2 ⟨g, p, b, A1, nn, cc, rfl, he, hi, z, ⟨hg, hp, hgp⟩, hb1⟩
  have hgl := he.lt; have hpl := hi.lt
  obtain ⟨p_o, hb⟩ := mv2 hb1 p_o hb
  clear hb1
  go_wp2_with fail
  refine al1c fun v3 hb1 x => ?_
  have x_e := Vc.of x
  obtain ⟨he, hi, z, p_o, hb⟩ := mv5 hb1 he hi z p_o hb
  clear x hb1
  refine (Mrun0_any he hi).mono ?_
  rintro e v4 ⟨rfl, hb1⟩
  obtain ⟨he, hi, z, p_o, x_e, hb⟩ := mv6 hb1 he hi z p_o x_e hb
  have q_e := x_e.al; have q1 := he.c1; have q2 := he.c2; have q5 := he.c5
  clear hb1
  go_wp2_with fail
  refine (Sindex_any (j := 0) (n := 1) hi rfl (by omega) (by omega) rfl (fun i h => by omega)).mono ?_
  rintro e v5 ⟨rfl, hb1⟩
  obtain ⟨he, hi, z, p_o, x_e, hb⟩ := mv6 hb1 he hi z p_o x_e hb
  replace q_e := x_e.al; replace q1 := he.c1; replace q2 := he.c2; replace q5 := he.c5
  clear hb1
  go_wp2_with fail
  go_loopw [46] (fun kv wr => (kv = .int .i64 0 ∧ Pw wr w.heap.size [0] 1 ∨ kv = .int .i64 1 ∧ Pw wr w.heap.size [1] 1) ∧ Eb wr g none (some ⟨p, 0, none⟩) 0 0 1 1 0 b A1 nn cc false ∧ Bi wr p [-1] ∧ Zr wr b A1 nn cc 1 1 ∧ Vc wr v2.heap.size 0 (.pointer (some ⟨g, 0, none⟩)) ∧ Below w.heap.size w wr) (fun kv _ => 1 - (intOf kv).toNat)
  case atStart => exact ⟨.inl ⟨rfl, p_o⟩, he, hi, z, x_e, hb⟩
  case round =>
    clear p_o he hi z x_e hb q_e q1 q2 q5
    obtain ⟨hc, he, hi, z, x_e, hb⟩ := hrel
    rcases hc with ⟨rfl, p_o⟩ | ⟨rfl, p_o⟩
    · have q_e := x_e.al; have q3 := he.c3; have q4 := he.c4
      have q_i := (hi.at_ (k := 0) (by decide)).al
      obtain ⟨At, nt, ct, x_t, _⟩ := p_o.ec (k := 0) (by decide)
      have q_t := x_t.al; have f_t := And.intro (p_o.fr (0 * 2)) (p_o.fr (0 * 2 + 1))
      go_wp2_with fail
      refine (Msigned_any (β := false) z (by omega)).mono ?_
      rintro e v6 ⟨A6, n6, c6, rfl, z6, hb1⟩
      obtain ⟨he, hi, z, x_e, p_o, x_t, hb⟩ := mv7 hb1 he hi z x_e p_o x_t hb
      replace q_t := x_t.al; replace f_t := And.intro (p_o.fr (0 * 2)) (p_o.fr (0 * 2 + 1))
      clear q_e q_i hb1 q3 q4
      go_wp2_with fail
      obtain ⟨hs, hx⟩ := p_o.set (k := 0) (by decide) z6
      exact ⟨⟨.inr ⟨rfl, hx⟩, he.sto (by omega) hs, hi.sto (by omega) hs, Ms.ms hs trivial z, x_e.sto (by omega) hs, ms1 hs (Nat.le_refl _) hb⟩, by decide⟩
    · have hp2 := p_o.po (B := w.heap.size) (Nat.le_refl _)
      clear p_o he hi z x_e
      go_wp2
      go_ret
      exact ⟨_, _, _, rfl, hp2, hb⟩
end Go.Proofs.YtbpamkpclofnbaaGreat
namespace Go.Proofs.YtbpamkpclofnbaaGreat
open Go.RowKit
set_option linter.unusedVariables false
set_option maxRecDepth 100000
theorem bytesR : Tryz.t22.bytes = 24 := by kernel_rfl
/-- What Grow of nothing makes. -/
def GrP (w : World) (n : Nat) (e : Ending) (w' : World) : Prop := (n = 0 ∧ e = .returned (.slice none 0 0) ∧ Below w.heap.size w w') ∨
  (0 < n ∧ ∃ g cap, e = .returned (.slice (some ⟨g, 0, none⟩) 0 cap) ∧ n ≤ cap ∧ w.heap.size ≤ g ∧ Oy w' g 0 cap [] ∧ Below w.heap.size w w')
theorem grow_oy (w : World) {n : Nat} (hn : n ≤ 1000) :
    Oy (w.alloc (.cells (Builtin.zeroCells #[Value.slice none 0 0] n ++ Builtin.zeroCells #[Value.slice none 0 0] (grownCap w n 0 22 - n)) 22)).drew w.heap.size 0 (grownCap w n 0 22) [] := by
  have hge := grownCap_ge w n 0 22
  refine ⟨_, heap_alloc_new w _, Nat.zero_le _, grownCap_le_maxLen w n 0 _ (by unfold maxLen; omega), ?_, rfl, rfl, ?_⟩
  · simp only [Array.size_append, size_zeroCells]
    simp
    omega
  · rw [Array.toList_append]
    exact kd_app (kd_zeroR _) (kd_zeroR _)
set_option maxHeartbeats 2000000 in
theorem Sgrow_any {w : World} {n : Nat} (hn : n ≤ 1000) :
    Calls Tryz.prog 142 #[.slice none 0 0, .int .i64 (n : Int)] w (GrP w n) := by
  have hb := Below.refl w.heap.size w
  go_enter Tryz.func142, Tryz.ntmps142
  rcases (show n = 0 ∨ 0 < n by omega) with h0 | h0
  · subst h0
    go_wp2
    go_ret
    exact .inl ⟨rfl, rfl, hb⟩
  · have hg0 : n ≠ 0 := by omega
    have hg1 : ¬ 281474976710656 < Builtin.nextslicecap n 0 * Tryz.t22.bytes := Nat.not_lt.2 (growslice_fits h0 (by rw [bytesR]; omega))
    have hg2 : (n : Int) * ((Tryz.t22.bytes : Nat) : Int) ≤ 281474976710656 := by rw [bytesR]; omega
    have hg3 : (n : Int) ≤ 9223372036854775807 := by omega
    have HN := Lib.hid hn
    clear hn
    go_wp2
    go_ret
    exact .inr ⟨h0, _, _, rfl, grownCap_ge w n 0 22, Nat.le_refl _, grow_oy w HN.out, below_drew (below_alloc w _)⟩
/-- A slice of rows holds these cells. -/
def Rc (w : World) (A : Option Addr) (n : Nat) (xs : List Value) : Prop := xs.length = n ∧ (∀ u ∈ xs, ∃ A m c, u = .slice A m c) ∧ (0 < n → ∃ d o, A = some ⟨d, o, none⟩ ∧ d < w.heap.size ∧ ∀ k (hk : k < xs.length), w.cell? ⟨d, o + k, none⟩ = some xs[k])
theorem Rc.keep {w w' : World} {A : Option Addr} {n : Nat} {xs : List Value} (h : Rc w A n xs) (hb : Below w.heap.size w w') : Rc w' A n xs := ⟨h.1, h.2.1, fun hn => by
  obtain ⟨d, o, e, hd, hc⟩ := h.2.2 hn
  exact ⟨d, o, e, Nat.lt_of_lt_of_le hd hb.size, fun k hk => (hb.cell (p := ⟨d, o + k, none⟩) hd).trans (hc k hk)⟩⟩
instance {w w' : World} {A : Option Addr} {n : Nat} {xs : List Value} : Mv (Rc w A n xs) w w' (Rc w' A n xs) := ⟨fun x y => x.keep y⟩
theorem run_catM (W : World) (ty : TypeId) {g n cap k c : Nat} {xs ys : List Value} {A : Option Addr} (h : Oy W g n cap xs) (hr : Rc W A k ys) (hk : 0 < k) (hroom : n + k ≤ cap) :
    ∃ w', (Builtin.append_ #[35, 35] ty #[.slice (some ⟨g, 0, none⟩) n cap, .slice A k c]).run Tryz.prog W = .ok (.slice (some ⟨g, 0, none⟩) (n + k) cap) w' ∧ Oy w' g (n + k) cap (xs ++ ys) ∧ Sto W g w' := by
  obtain ⟨i0, hi, hz0, hz1, hz2⟩ := info_parts Tryz.infoR
  obtain ⟨hyl, hys, hyc⟩ := hr
  obtain ⟨d, o, rfl, hd, hc⟩ := hyc hk
  obtain ⟨cur, hh, hnc, hcm, hcs, htk, hxl, hkd⟩ := h
  have hkd2 : Kd ys := fun u hu x => by obtain ⟨A, m, c, rfl⟩ := hys u hu; simp
  have hr := run_append_room (P := Tryz.prog) W 35 ty 22 i0 Tryz.underlying35 hi g n cap cur hh ⟨d, o, none⟩ k c ys (by rw [hz1, hyl]; omega) (fun j u hj => by
    obtain ⟨h1, h2⟩ := List.getElem?_eq_some_iff.1 hj
    rw [add_offN, ← h2]; exact hc j h1) (fun u hu => by obtain ⟨A, m, c, rfl⟩ := hys u hu; rfl) hroom (by rw [hz1, hcs, hyl]; omega)
  simp only [hz1, Nat.mul_one] at hr
  have N : Nl W g := nl_of hh fun i y e => hkd _ (by have := Array.mem_of_getElem? e; simpa using this) y rfl
  refine ⟨_, hr, ⟨_, setRow_heap W g cur _ _ _ hh, hroom, hcm, ?_, ?_, by simp [hxl, hyl], ?_⟩, ⟨rfl, rfl, rfl, by simp [World.setRow], fun k hk => setRow_other W g k _ hk, fun e j x hx => ?_⟩⟩
  · simp [hcs, hyl]; omega
  · rw [htk, show n + k = (xs ++ ys).length by simp [hxl, hyl]]
    exact List.take_left
  · refine kd_app (kd_app ?_ hkd2) ?_
    · exact fun u hu x => hkd u (List.mem_of_mem_take hu) x
    · exact fun u hu x => hkd u (List.mem_of_mem_drop hu) x
  · by_cases eg : e = g
    · subst eg; exact absurd hx (N _ _)
    · exact World.cell?_of_block (setRow_other W g e _ eg)
theorem run_catZ (W : World) (ty : TypeId) {n cap c : Nat} {B A : Option Addr} (hn : n ≤ cap) :
    (Builtin.append_ #[35, 35] ty #[.slice B n cap, .slice A 0 c]).run Tryz.prog W = .ok (.slice B n cap) W := by
  obtain ⟨i0, hi, hz0, hz1, hz2⟩ := info_parts Tryz.infoR
  have hu := Tryz.underlying35
  cases B <;> cases A <;> simp [Builtin.append_, run_underlying hu, sizeOf, typeInfo, hi, hn, storeCells, Builtin.firstCells, Builtin.lenOf, loadCells, loadCellsFrom]
/-- What Concat has made so far: nothing where there will be nothing, else a block with room. -/
def CaV (w : World) (N n : Nat) (xs : List Value) (s : Value) (w' : World) : Prop := xs.length = n ∧ Below w.heap.size w w' ∧ ((N = 0 ∧ s = .slice none 0 0) ∨ (0 < N ∧ ∃ g cap, s = .slice (some ⟨g, 0, none⟩) n cap ∧ N ≤ cap ∧ w.heap.size ≤ g ∧ Oy w' g n cap xs))
theorem wp_catV {w W : World} {ops : Array Oper} {rest : List Oper} {o : Oper} {a : Act} {Q : Exit → Act → World → Prop} (hgd : o.guard = none) (s x : Operand)
    (hop : o.op = .call { callee := .builtin .append, args := #[s, x], argTypes := #[35, 35] }) {v : Value} (hs : a.eval s = v) {N n k c : Nat} {xs ys : List Value} {A : Option Addr} (hx : a.eval x = .slice A k c)
    (h : CaV w N n xs v W) (hr : Rc W A k ys) (hn : n + k ≤ N)
    (hK : ∀ v' w', CaV w N (n + k) (xs ++ ys) v' w' → Fz (fun y => w.heap.size ≤ y) W w' → wpList Tryz.prog ops Q rest (a.put o.dst v') w') : wpList Tryz.prog ops Q (o :: rest) a W :=
  wpList_plain hgd fun K hK2 => by
    obtain ⟨hl, hb, h⟩ := h
    have hl2 : (xs ++ ys).length = n + k := by rw [List.length_append, hl, hr.1]
    rcases (show k = 0 ∨ 0 < k by omega) with h0 | h0
    · subst h0
      have hys : ys = [] := List.eq_nil_of_length_eq_zero hr.1
      have hcap : ∃ B m cap, v = .slice B m cap ∧ m ≤ cap := by
        rcases h with ⟨_, rfl⟩ | ⟨_, g, cap, rfl, h1, _, h2⟩
        · exact ⟨_, _, _, rfl, Nat.le_refl _⟩
        · exact ⟨_, _, _, rfl, by omega⟩
      obtain ⟨B, m, cap, rfl, hm⟩ := hcap
      have hrun := run_catZ W o.type (B := B) (A := A) (c := c) hm
      unfold Oper.wp execOp
      simp only [hop, resolve, invoke, builtin, Sem.run_bind, Sem.run_pure, Result.andThen_ok, List.map_toArray, List.map_cons, List.map_nil, hs, hx, hrun]
      refine hK2 _ _ (hK _ _ ⟨hl2, hb, ?_⟩ (Fz.refl _))
      rw [hys, List.append_nil]; exact h
    · rcases h with ⟨h1, _⟩ | ⟨h1, g, cap, rfl, h2, h3, h4⟩
      · omega
      · obtain ⟨w', hrun, h5, h6⟩ := run_catM W o.type (c := c) h4 hr h0 (by omega)
        unfold Oper.wp execOp
        simp only [hop, resolve, invoke, builtin, Sem.run_bind, Sem.run_pure, Result.andThen_ok, List.map_toArray, List.map_cons, List.map_nil, hs, hx, hrun]
        exact hK2 _ _ (hK _ _ ⟨hl2, ms1 h6 h3 hb, .inr ⟨h1, g, cap, rfl, h2, h3, h5⟩⟩ (h6.fz.mono fun y _ e => by show w.heap.size ≤ y; rw [show y = g from e]; exact h3))
set_option maxHeartbeats 4000000 in
theorem Sconcat_any {w : World} {h n1 c1 n2 c2 c N : Nat} {A1 A2 : Option Addr} {xs ys : List Value} (x0 : Vc w h 0 (.slice A1 n1 c1)) (x1 : Vc w h 1 (.slice A2 n2 c2)) (hx : Rc w A1 n1 xs) (hy : Rc w A2 n2 ys) (hN : n1 + n2 = N) (hn : N ≤ 1000) :
    Calls Tryz.prog 96 #[.slice (some ⟨h, 0, none⟩) 2 c] w fun e w' => ∃ s, e = .returned s ∧ CaV w N N (xs ++ ys) s w' := by
  have q0 := x0.al; have q1 := x1.al
  have hw1 : IntKind.i64.wrap ((n1 : Int) + n2) = (N : Int) := by rw [i64_keep (by omega) (by omega)]; omega
  have HNN := Lib.hid hN
  go_enter Tryz.func96, Tryz.ntmps96
  go_wp2_with fail
  go_loopw [3, 11] (fun sv kv wr => w = wr ∧ ((kv = .int .i64 0 ∧ sv = .int .i64 0) ∨ (kv = .int .i64 1 ∧ sv = .int .i64 (n1 : Int)) ∨ (kv = .int .i64 2 ∧ sv = .int .i64 (N : Int)))) (fun _ kv _ => 2 - (intOf kv).toNat)
  case atStart => exact ⟨rfl, .inl ⟨rfl, rfl⟩⟩
  case round =>
    obtain ⟨rfl, hc⟩ := hrel
    rcases hc with ⟨rfl, rfl⟩ | ⟨rfl, rfl⟩ | ⟨rfl, rfl⟩
    · go_wp2_with fail
      exact ⟨⟨trivial, .inr (.inl ⟨rfl, rfl⟩)⟩, by decide⟩
    · go_wp2_with fail
      exact ⟨⟨trivial, .inr (.inr ⟨rfl, rfl⟩)⟩, by decide⟩
    · have HN : Hid (N ≤ 1000) := Lib.hid hn
      go_wp2_with fail
      with_reducible refine (Sgrow_any (n := N) hn).mono ?_
      rintro e v1 hg
      obtain ⟨s, rfl, cv⟩ : ∃ s, e = .returned s ∧ CaV w N 0 [] s v1 := by
        rcases hg with ⟨h0, rfl, hb⟩ | ⟨h0, g, cap, rfl, h1, h2, h3, hb⟩
        · exact ⟨_, rfl, rfl, hb, .inl ⟨h0, rfl⟩⟩
        · exact ⟨_, rfl, rfl, hb, .inr ⟨h0, g, cap, rfl, h1, h2, h3⟩⟩
      clear hg q0 q1 hw1
      go_wp2_with fail
      go_loopw [6, 27] (fun sv kv w2 => (kv = .int .i64 0 ∧ CaV w N 0 [] sv w2) ∨ (kv = .int .i64 1 ∧ CaV w N n1 xs sv w2) ∨ (kv = .int .i64 2 ∧ CaV w N N (xs ++ ys) sv w2)) (fun _ kv _ => 2 - (intOf kv).toNat)
      case atStart => exact .inl ⟨rfl, cv⟩
      case round =>
        clear cv
        rcases hrel with ⟨rfl, cv⟩ | ⟨rfl, cv⟩ | ⟨rfl, cv⟩
        · have q0 := (x0.keep cv.2.1).al
          go_wp2_with (at_builtin; refine wp_catV (w := w) rfl _ _ rfl rfl rfl cv (hx.keep cv.2.1) (by omega) ?_; intro s' w' cv2 hf)
          rw [Nat.zero_add, List.nil_append] at cv2
          exact ⟨.inr (.inl ⟨rfl, cv2⟩), by decide⟩
        · have q1 := (x1.keep cv.2.1).al
          go_wp2_with (at_builtin; refine wp_catV (w := w) rfl _ _ rfl rfl rfl cv (hy.keep cv.2.1) (by omega) ?_; intro s' w' cv2 hf)
          rw [HNN.out] at cv2
          exact ⟨.inr (.inr ⟨rfl, cv2⟩), by decide⟩
        · go_wp2
          go_ret
          exact ⟨_, rfl, cv⟩
end Go.Proofs.YtbpamkpclofnbaaGreat
