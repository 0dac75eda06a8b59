/-
  polyz: primitiveGcd.
-/
import Derived.Test.YtnidohbbimfpjaaVres
import Derived.Test.YtnidohbbimfpjaaVpri
namespace Go.Proofs.Ytnidohbbimfpjaa
open Go.RowKit
open MP.Se (nf co)
set_option linter.unusedVariables false
set_option maxRecDepth 100000

/-- What primitiveGcd does, step by step, with numbers of at most B limbs: from P and Q, and two scales, to G. -/
def PgR (B : Nat) : Nat → List Int → List Int → Int → Int → List Int → Prop
  | 0, _, _, _, _, _ => False
  | N + 1, P, Q, f, s, G => (Q.length = 1 ∧ G = [1]) ∨ (Q = [] ∧ G = primL P) ∨
    ∃ (r Q2 : List Int) (u : MP.Se) (f2 s2 : Int) (d gap : Nat), (Q.length = d + 1 ∧ 1 ≤ d ∧ P.length = d + 1 + gap ∧ MP.Se.Nm r) ∧ (MP.Se.Fn u ∧ MP.Se.sm ((co Q) d ^ (gap + 1)) (co P) = co Q * u + co r ∧ MP.Se.Bd (co r) d) ∧
      (f * s ^ gap ≠ 0 ∧ Q2 = nf (r.map (· / (f * s ^ gap))) ∧ f2 = (co Q) d) ∧ (gap = 0 ∧ s2 = s ∨ 0 < gap ∧ s ^ (gap - 1) ≠ 0 ∧ s2 = f2 ^ gap / s ^ (gap - 1)) ∧
      ((∀ x ∈ Q2, Si x B) ∧ Si f2 B ∧ Si s2 B) ∧ PgR B N Q Q2 f2 s2 G
theorem Po.fit {w : World} {B n c J K : Nat} {A : Option Addr} {l : List Int} (h : Po w B A n c l J) (hs : ∀ x ∈ l, Si x K) : Pd w w.heap.size A n c l K := by
  rcases h with ⟨rfl, rfl, rfl, rfl⟩ | ⟨g, L, rfl, hg, rfl, hn, hp, rfl⟩
  · exact Pd.nil _ _ _
  · refine ⟨by simp; omega, hn, by have := hp.len; omega, fun h0 => ⟨g, 0, rfl, hp.lt, fun k hk => ?_⟩⟩
    have hk2 : k < n ∧ k < L.length := by rw [List.length_take] at hk; omega
    obtain ⟨A, m, c, a1, a2, a3⟩ := hp.cells hk2.2
    have hx := hs _ (List.getElem_mem hk)
    rw [List.getElem_take] at hx ⊢
    rw [Nat.zero_add]
    exact ⟨_, A, m, c, a1, a2, (a3.slim hx).zr⟩
theorem kd_two' (b : Bool) (A : Option Addr) (m c : Nat) : Kd (#[Value.bool b, .slice A m c] : Array Value).toList := fun u hu x => by
  simp at hu
  rcases hu with rfl | rfl <;> simp
theorem Pw.one {w : World} {g n c K : Nat} {A : Option Addr} {X : Int} (h : w.heap[g]? = some (.cells #[.bool (ngB X), .slice A n c] 32 (0, 0))) (z : Zn w A n c X K) : Pw w g [X] K :=
  ⟨_, h, rfl, by simp, kd_two' _ _ _ _, fun k hk => by
    obtain rfl : k = 0 := by simpa using hk
    exact ⟨A, n, c, rfl, rfl, z⟩⟩
/-- A slice of integers that does not lie in the blocks g and g + 1. -/
def Pq (w : World) (g : Nat) (A : Option Addr) (n c : Nat) (l : List Int) (J : Nat) : Prop :=
  l.length = n ∧ n ≤ c ∧ n ≤ 100000 ∧ (0 < n → ∃ d o, A = some ⟨d, o, none⟩ ∧ d < w.heap.size ∧ (d < g ∨ g + 1 < d) ∧ ∀ k (hk : k < l.length), El w d (o + k * 2) l[k] J)
section
variable {w v W : World} {g h B n c J K : Nat} {A : Option Addr} {l : List Int}
theorem Pq.pd (p : Pq w g A n c l J) : Pd w w.heap.size A n c l J := ⟨p.1, p.2.1, p.2.2.1, fun hn => by
  obtain ⟨d, o, e, hd, _, hc⟩ := p.2.2.2 hn
  exact ⟨d, o, e, hd, hc⟩⟩
theorem Pq.len (p : Pq w g A n c l J) : l.length = n := p.1
theorem Pd.pq (p : Pd w B A n c l J) (hB : B ≤ g) (hg : B ≤ w.heap.size) : Pq w g A n c l J := ⟨p.1, p.2.1, p.2.2.1, fun hn => by
  obtain ⟨d, o, e, hd, hc⟩ := p.at_ hn
  exact ⟨d, o, e, by omega, .inl (by omega), hc⟩⟩
theorem Po.pq (p : Po w B A n c l J) (hB : g + 1 < B) (hs : ∀ x ∈ l, Si x K) : Pq w g A n c l K := by
  have f := p.fit hs
  refine ⟨f.1, f.2.1, f.2.2.1, fun hn => ?_⟩
  obtain ⟨d, o, e, hd, hc⟩ := f.at_ hn
  refine ⟨d, o, e, hd, .inr ?_, hc⟩
  rcases p with ⟨rfl, _⟩ | ⟨g', L, e2, hg, _⟩
  · cases e
  · rw [e2] at e; injection e with e; injection e with e; omega
theorem Pq.keep (p : Pq W g A n c l J) (hb : Below W.heap.size W v) : Pq v g A n c l J := ⟨p.1, p.2.1, p.2.2.1, fun hn => by
  obtain ⟨d, o, e, hd, hg, hc⟩ := p.2.2.2 hn
  exact ⟨d, o, e, Nat.lt_of_lt_of_le hd hb.size, hg, fun k hk => (hc k hk).keep hd hb⟩⟩
instance : Mv (Pq W g A n c l J) W v (Pq v g A n c l J) := ⟨fun x y => x.keep y⟩
instance : Ms (Pq W g A n c l J) W v h (h = g ∨ h = g + 1) (Pq v g A n c l J) := ⟨fun s hg p => ⟨p.1, p.2.1, p.2.2.1, fun hn => by
  obtain ⟨d, o, e, hd, hg2, hc⟩ := p.2.2.2 hn
  exact ⟨d, o, e, by rw [s.size]; exact hd, hg2, fun k hk => (hc k hk).sto (by omega) s⟩⟩⟩
end
/-- How long a slice is. -/
def lenOf : Value → Nat
  | .slice _ n _ => n
  | _ => 0
/-- What the loop of primitiveGcd keeps. -/
def PgI (w : World) (B : Nat) (G : List Int) (g5 g6 : Nat) (pv qv : Value) (wr : World) : Prop :=
  ∃ N A n c A2 n2 c2 P Q f s, pv = .slice A n c ∧ qv = .slice A2 n2 c2 ∧ PgR B N P Q f s G ∧ Pq wr g5 A n c P B ∧ Pq wr g5 A2 n2 c2 Q B ∧ MP.Se.Nm P ∧ MP.Se.Nm Q ∧ n ≤ 100 ∧ n2 ≤ 100 ∧
    (∃ b A n c, Bx wr g5 b A n c ∧ Zr wr b A n c f B) ∧ (∃ b A n c, Bx wr g6 b A n c ∧ Zr wr b A n c s B) ∧ Below w.heap.size w wr
theorem rest_is {P Q r L L2 : List Int} {u : MP.Se} {d T : Nat} (hQ : Q.length = d + 1) (hN : MP.Se.Nm Q) (hr : MP.Se.Nm r) (hu : MP.Se.Fn u) (e : MP.Se.sm ((co Q) d ^ T) (co P) = co Q * u + co r) (hb : MP.Se.Bd (co r) d) (hL2 : MP.Se.Nm L2) (e2 : MP.Se.sm ((co Q) d ^ T) (co P) = co Q * co L + co L2) (hb2 : MP.Se.Bd (co L2) d) : L2 = r := by
  have dq : MP.Se.Dg (co Q) d := ⟨nm_last hN hQ, (MP.Se.co_bd Q).le (by omega)⟩
  exact MP.Se.nm_ext hL2 hr (MP.Se.div_uniq dq (MP.Se.co_fn L) hu hb2 hb (e2.symm.trans e)).2
theorem ldL_is {Q : List Int} {d : Nat} (hQ : Q.length = d + 1) (hN : MP.Se.Nm Q) : ldL Q = (co Q) d := by
  rw [ldL, MP.Se.nf_id hN, hQ, Nat.add_sub_cancel]; rfl
set_option maxHeartbeats 8000000 in
theorem Ppg_any {A A2 : Option Addr} {n c n2 c2 B N : Nat} {P Q G : List Int} {w : World} (h : Pd w w.heap.size A n c P B) (h2 : Pd w w.heap.size A2 n2 c2 Q B) (hP : MP.Se.Nm P) (hQ : MP.Se.Nm Q) (hn : n ≤ 100) (hn2 : n2 ≤ 100) (hB : B ≤ 1000) (hB1 : 1 ≤ B) (hR : if n < n2 then PgR B N Q P 1 1 G else PgR B N P Q 1 1 G) :
    Calls Try.prog 56 #[.slice A n c, .slice A2 n2 c2] w (OutP w G (B + 1)) := by
  replace h := h.pe; replace h2 := h2.pe
  go_enter Try.func56, Try.ntmps56
  rcases (show n < n2 ∨ ¬ n < n2 by omega) with hlt | hlt
  · rw [if_pos hlt] at hR
    go_wp2_with fail
    with_reducible refine (ZOf_any 1 (by omega) (by omega)).mono ?_
    rintro e v1 ⟨A5, n5, c5, rfl, z5, hb⟩
    obtain ⟨h, h2⟩ := mv2 hb h h2
    go_wp2_with fail
    with_reducible refine (ZOf_any 1 (by omega) (by omega)).mono ?_
    rintro e v2 ⟨A6, n6, c6, rfl, z6, hb1⟩
    obtain ⟨h, h2, z5, hb⟩ := mv4 hb1 h h2 z5 hb
    clear hb1
    go_wp2_with fail
    refine al2 fun v3 hb1 x_f x_s => ?_
    replace x_f := Bx.of x_f; replace x_s := Bx.of x_s
    have hgw := hb.size
    obtain ⟨h, h2, z5, z6, hb⟩ := mv5 hb1 h h2 z5 z6 hb
    clear hb1
    obtain ⟨g5, hg5⟩ : ∃ g, v2.heap.size = g := ⟨_, rfl⟩
    rw [hg5] at x_f x_s hgw
    simp only [hg5]
    clear hg5
    have hr0 : PgI w B G g5 (g5 + 1) (.slice A2 n2 c2) (.slice A n c) v3 := ⟨N, _, _, _, _, _, _, _, _, _, _, rfl, rfl, hR, h2.2.pq hgw (Nat.le_trans hgw (Nat.le_of_lt x_f.lt)), h.2.pq hgw (Nat.le_trans hgw (Nat.le_of_lt x_f.lt)), hQ, hP, hn2, hn, ⟨_, _, _, _, x_f, z5.zr.kto hB1⟩, ⟨_, _, _, _, x_s, z6.zr.kto hB1⟩, hb⟩
    clear h h2 hR hP hQ hn hn2 x_f x_s z5 z6 hb hlt
    go_loopw [0, 1] (fun pv qv wr => PgI w B G g5 (g5 + 1) pv qv wr) (fun _ qv _ => lenOf qv)
    case atStart => exact hr0
    case round =>
      clear hr0
      obtain ⟨N9, A7, n7, c7, A8, n8, c8, P9, Q9, f, s, rfl, rfl, hR, h, h2, hP, hQ, hn, hn2, ⟨bf, Af, nf9, cf, x_f, z_f⟩, ⟨bs, As, ns, cs, x_s, z_s⟩, hb⟩ := hrel
      have hl := h.len; have hl2 := h2.len
      rcases N9 with _ | N9
      · exact hR.elim
      rcases hR with ⟨hQ1, hG⟩ | ⟨hQ0, hG⟩ | ⟨r, Q2, u, f2, s2, d, gap, ⟨hQd, hd1, hPd, hNr⟩, ⟨hu, heq, hbd⟩, ⟨hδ, hQ2, hf2⟩, hs2, ⟨hsz, hfB, hsB⟩, hR⟩
      · have h81 : n8 = 1 := by omega
        subst h81
        subst hG
        clear h h2 hl hl2 x_f x_s z_f z_s
        go_wp2_with fail
        with_reducible refine (ZOf_any 1 (by omega) (by omega)).mono ?_
        rintro e v9 ⟨A10, n10, c10, rfl, z10, hb1⟩
        replace hb := bthen hb hb1
        clear hb1
        go_wp2
        refine al1 fun v10 hb1 x_o => ?_
        have hpo := (Pw.one x_o (z10.keep hb1)).po hb.size
        replace hb := bthen hb hb1
        go_ret
        exact ⟨_, 1, 1, rfl, hpo.kto (by omega), hb⟩
      · subst hQ0
        have h80 : n8 = 0 := by simpa using hl2.symm
        subst h80
        subst hG
        clear h2 hl2 x_f x_s z_f z_s
        go_wp2_with fail
        with_reducible refine (PPrimitive_any h.pd (by omega)).mono ?_
        rintro e v9 ⟨A10, n10, c10, rfl, p10, hb1⟩
        replace p10 := p10.more hb.size
        replace hb := bthen hb hb1
        have HPR : Hid (Po v9 w.heap.size A10 n10 c10 (primL P9) (B + 1)) := Lib.hid p10
        clear hb1 p10
        go_wp2
        go_ret
        exact ⟨A10, n10, c10, rfl, HPR.out, hb⟩
      · have h8d : 1 < n8 := by omega
        have hgid : IntKind.i64.wrap ((n7 : Int) - n8) = (gap : Int) := by rw [i64_keep (by omega) (by omega)]; omega
        have hgb : gap ≤ 98 := by omega
        have hd0 : (nf Q9).length - 1 = d := by rw [MP.Se.nf_id hQ]; omega
        have hT0 : (nf P9).length - d = gap + 1 := by rw [MP.Se.nf_id hP]; omega
        have m1 : (gap + 1) * (B + 1) ≤ 100 * 1001 := Nat.mul_le_mul (by omega) (by omega)
        have m2 : n7 * B ≤ 100 * 1000 := Nat.mul_le_mul hn hB
        have m3 : gap * B ≤ 98 * 1000 := Nat.mul_le_mul hgb hB
        obtain ⟨KR, hKR⟩ : ∃ K, B + (gap + 1) * (B + 1) = K := ⟨_, rfl⟩
        obtain ⟨KT, hKT⟩ : ∃ K, KR + n7 * B + 1 = K := ⟨_, rfl⟩
        obtain ⟨KG, hKG⟩ : ∃ K, gap * B + 1 = K := ⟨_, rfl⟩
        have hKRb : KR ≤ 101100 := by omega
        have hKTb : KT ≤ 900000 := by omega
        have hKGb : KG ≤ 98001 := by omega
        have hKR2 := Nat.le_of_eq hKR
        have hKT2 := Nat.le_of_eq hKT
        obtain ⟨V, hV⟩ : ∃ V, s ^ gap = V := ⟨_, rfl⟩
        obtain ⟨D, hD⟩ : ∃ D, f * V = D := ⟨_, rfl⟩
        rw [hV, hD] at hδ hQ2
        have hq2 : nf ((nf r).map (· / D)) = Q2 := by rw [MP.Se.nf_id hNr]; exact hQ2.symm
        have hrl := MP.Se.nm_len hNr hbd
        have hq2l : Q2.length ≤ d := by rw [hQ2]; refine Nat.le_trans (MP.Se.nf_len _) ?_; rw [List.length_map]; exact hrl
        have hNq2 : MP.Se.Nm Q2 := by rw [hQ2]; exact MP.Se.nm_nf _
        have hld : ldL Q9 = f2 := by rw [ldL_is hQd hQ]; exact hf2.symm
        have HV := Lib.hid hV; have HDD := Lib.hid hD; have HQ2 := Lib.hid hq2; have HLD := Lib.hid hld; have HQ2L := Lib.hid hq2l; have HKG := Lib.hid hKG; have HS2 := Lib.hid hs2; have HSZ := Lib.hid hsz; have HSB := Lib.hid hsB; have HFB := Lib.hid hfB; have HR9 := Lib.hid hR; have HQD := Lib.hid hQd; have HEQ := Lib.hid heq
        have HL8 : Hid (n8 = d + 1) := Lib.hid (by omega)
        clear hV hD hq2 hld hq2l hKG hs2 hsz hsB hfB hR hQd hPd hf2 hQ2 hl hl2 heq hKR hKT hrl
        have q_f := x_f.al
        have q_s := x_s.al
        go_wp2_with fail
        with_reducible refine (PRest_any (J := B) (J2 := B) (K := KR) (K2 := KT) (d := d) (T := gap + 1) h.pd h2.pd (by omega) hd0 hT0 hKR2 hKT2 hKTb (by omega)).mono ?_
        rintro e v9 ⟨hb1, hcase⟩
        rcases hcase with ⟨h0, _⟩ | ⟨_, L, A9, m9, c9, L2, A10, m10, c10, hNL, hNL2, heq2, hbd2, rfl, p9, p10⟩
        · exact absurd h0 (fun e => nm_last hQ HQD.out (by rw [e]; cases d <;> rfl))
        obtain rfl : L2 = r := rest_is HQD.out hQ hNr hu HEQ.out hbd hNL2 heq2 hbd2
        obtain ⟨x_f, x_s, h, h2, z_f, z_s, hb⟩ := mv7 hb1 x_f x_s h h2 z_f z_s hb
        clear hb1
        replace q_f := x_f.al
        replace q_s := x_s.al
        clear hNL hNL2 heq2 hbd2 p9 hu hbd hKR2 hKT2 hd0 hT0
        go_upto_region 7 with fail
        go_region_held3 (fun w' => w'.cell? ⟨g5, 0, none⟩ = some (.bool bf) ∧ w'.cell? ⟨g5, 1, none⟩ = some (.slice Af nf9 cf) ∧ w'.cell? ⟨g5 + 1, 0, none⟩ = some (.bool bs) ∧ w'.cell? ⟨g5 + 1, 1, none⟩ = some (.slice As ns cs))
          (first | (with_reducible exact ⟨x_f.c0, x_f.c1, x_s.c0, x_s.c1⟩) | go_keep)
          (first | (go_at_call 94; (with_reducible refine (PPower_any (m := gap) z_s.drw (by omega) (by omega)).mono ?_); rintro e v1 ⟨A11, n11, c11, rfl, z11, hb1⟩; replace hb1 := undrew hb1; obtain ⟨x_f, x_s, h, h2, z_f, z_s, p10, hb⟩ := mv8 hb1 x_f x_s h h2 z_f z_s p10 hb; clear hb1; replace q_f := x_f.al; replace q_s := x_s.al; rw [HV.out, HKG.out] at z11; rw [HV.out]) | (go_at_call 40; (with_reducible refine (ZMul_any z_f z11.zr (B + KG) (Nat.le_refl _) (by omega)).mono ?_); rintro e v2 ⟨A12, n12, c12, rfl, z12, hb1⟩; obtain ⟨x_f, x_s, h, h2, z_f, z_s, p10, z11, hb⟩ := mv9 hb1 x_f x_s h h2 z_f z_s p10 z11 hb; clear hb1; replace q_f := x_f.al; replace q_s := x_s.al; rw [HDD.out] at z12; rw [HDD.out]) | (go_at_call 67; (with_reducible refine (PShrink_any (K := 200000) p10.pd z12.zr (.inl hδ) (by omega) (by omega) (by omega)).mono ?_); rintro e v3 ⟨A13, m13, c13, rfl, p13, hb1⟩; have lt13 := x_s.lt; obtain ⟨x_f, x_s, h, h2, z_f, z_s, p10, z11, z12⟩ := mv9 hb1 x_f x_s h h2 z_f z_s p10 z11 z12; replace hb := Mv.mv hb hb1; clear hb1; replace q_f := x_f.al; replace q_s := x_s.al; rw [HQ2.out] at p13))
        replace p13 := p13.pq lt13 HSZ.out
        clear z11 z12 p10
        go_wp2_with fail
        with_reducible refine (PLead_any h2.pd (by omega)).mono ?_
        rintro e v4 ⟨b14, A14, n14, c14, rfl, z14, hb1⟩
        obtain ⟨x_f, x_s, h, h2, z_f, z_s, p13, hb⟩ := mv8 hb1 x_f x_s h h2 z_f z_s p13 hb
        clear hb1
        replace q_f := x_f.al
        replace q_s := x_s.al
        rw [HLD.out] at z14
        go_upto_region 9 with fail
        clear q_f q_s
        refine x_f.st fun v5 hs hx => ?_
        obtain ⟨x_s, h, h2, z_f, z_s, p13, z14, hb⟩ := ms8 hs ⟨by omega, by omega, by omega, trivial, trivial, by omega, trivial, by omega⟩ x_s h h2 z_f z_s p13 z14 hb
        replace x_f := hx; clear hx hs
        have q_f := x_f.al
        have q_s := x_s.al
        rcases HS2.out with ⟨hg0, hs2⟩ | ⟨hg0, hne, hs2⟩
        · have hgz : ¬ (0 : Int) < (gap : Int) := by omega
          have hgz2 : ¬ 0 < gap := by omega
          subst hs2
          go_wp2
          have hm13 := p13.len
          have hq9 := HQ2L.out
          have hq8 := HL8.out
          exact ⟨⟨N9, A8, n8, c8, A13, m13, c13, Q9, Q2, f2, _, rfl, rfl, HR9.out, h2, p13, hQ, hNq2, hn2, by omega, ⟨_, _, _, _, x_f, z14⟩, ⟨_, _, _, _, x_s, z_s⟩, hb⟩, by simp [lenOf]; omega⟩
        · have hgp : (0 : Int) < (gap : Int) := by omega
          obtain ⟨gj, hgj⟩ : ∃ j, gap - 1 = j := ⟨_, rfl⟩
          have hid5 : IntKind.i64.wrap ((gap : Int) - 1) = (gj : Int) := by rw [i64_keep (by omega) (by omega)]; omega
          rw [hgj] at hne hs2
          have hgj98 : gj ≤ 98 := by omega
          have m4 : gj * B ≤ 98 * 1000 := Nat.mul_le_mul hgj98 hB
          obtain ⟨V3, hV3⟩ : ∃ V, f2 ^ gap = V := ⟨_, rfl⟩
          obtain ⟨V4, hV4⟩ : ∃ V, s ^ gj = V := ⟨_, rfl⟩
          rw [hV3, hV4] at hs2
          rw [hV4] at hne
          have HV3 := Lib.hid hV3; have HV4 := Lib.hid hV4; have HSS := Lib.hid hs2
          obtain ⟨KJ, hKJ⟩ : ∃ K, gj * B + 1 = K := ⟨_, rfl⟩
          have HKJ := Lib.hid hKJ
          have hKJb : KJ ≤ 98001 := by omega
          have hgj9 : gj ≤ 1000 := by omega
          have hg9 : gap ≤ 1000 := by omega
          clear hV3 hV4 hs2 hKJ hgj
          go_upto_region 10 with fail
          go_region_law (first | (go_simp; go_at_call 94; (with_reducible refine (PPower_any (m := gap) z14.drw hg9 (by omega)).mono ?_); rintro e v6 ⟨A15, n15, c15, rfl, z15, hb1⟩; replace hb1 := undrew hb1; obtain ⟨x_f, x_s, h, h2, z_f, z_s, p13, z14, hb⟩ := mv9 hb1 x_f x_s h h2 z_f z_s p13 z14 hb; clear hb1; replace q_f := x_f.al; replace q_s := x_s.al; rw [HV3.out, HKG.out] at z15; rw [HV3.out]) | (go_simp; go_at_call 94; (with_reducible refine (PPower_any (m := gj) z_s hgj9 (by omega)).mono ?_); rintro e v7 ⟨A16, n16, c16, rfl, z16, hb1⟩; obtain ⟨x_f, x_s, h, h2, z_f, z_s, p13, z14, z15⟩ := mv9 hb1 x_f x_s h h2 z_f z_s p13 z14 z15; replace hb := Mv.mv hb hb1; clear hb1; replace q_f := x_f.al; replace q_s := x_s.al; rw [HV4.out, HKJ.out] at z16; rw [HV4.out]) | (go_simp; go_at_call 59; (with_reducible refine (ZDivMod_any z15.zr z16.zr hne 200000 (by omega) (by omega) (by omega)).mono ?_); rintro e v8 ⟨A17, n17, c17, A18, n18, c18, rfl, z17, z18, hb1⟩; obtain ⟨x_f, x_s, h, h2, z_f, z_s, p13, z14, z15⟩ := mv9 hb1 x_f x_s h h2 z_f z_s p13 z14 z15; obtain ⟨z16, hb⟩ := mv2 hb1 z16 hb; clear hb1; replace q_f := x_f.al; replace q_s := x_s.al; rw [← HSS.out] at z17; rw [← HSS.out]))
          all_goals
            replace z17 := z17.slim HSB.out
            clear q_f q_s z18 z15 z16
            go_wp2
            have hm13 := p13.len
            have hq9 := HQ2L.out
            have hq8 := HL8.out
            have hq13 : m13 ≤ 100 := by omega
            refine ⟨?_, by simp [lenOf]; omega⟩
            refine x_s.st (F := PgI w B G g5 (g5 + 1) (.slice A8 n8 c8) (.slice A13 m13 c13)) fun v9 hs hx => ?_
            obtain ⟨x_f, h, h2, z_f, z_s, p13, z14, z17, hb⟩ := ms9 hs ⟨by omega, by omega, by omega, trivial, trivial, by omega, trivial, trivial, by omega⟩ x_f h h2 z_f z_s p13 z14 z17 hb
            replace x_s := hx; clear hx hs
            have q_f := x_f.al
            have q_s := x_s.al
            exact ⟨N9, A8, n8, c8, A13, m13, c13, Q9, Q2, f2, s2, rfl, rfl, HR9.out, h2, p13, hQ, hNq2, hn2, hq13, ⟨_, _, _, _, x_f, z14⟩, ⟨_, _, _, _, x_s, z17.zr⟩, hb⟩
  · rw [if_neg hlt] at hR
    go_wp2_with fail
    with_reducible refine (ZOf_any 1 (by omega) (by omega)).mono ?_
    rintro e v1 ⟨A5, n5, c5, rfl, z5, hb⟩
    obtain ⟨h, h2⟩ := mv2 hb h h2
    go_wp2_with fail
    with_reducible refine (ZOf_any 1 (by omega) (by omega)).mono ?_
    rintro e v2 ⟨A6, n6, c6, rfl, z6, hb1⟩
    obtain ⟨h, h2, z5, hb⟩ := mv4 hb1 h h2 z5 hb
    clear hb1
    go_wp2_with fail
    refine al2 fun v3 hb1 x_f x_s => ?_
    replace x_f := Bx.of x_f; replace x_s := Bx.of x_s
    have hgw := hb.size
    obtain ⟨h, h2, z5, z6, hb⟩ := mv5 hb1 h h2 z5 z6 hb
    clear hb1
    obtain ⟨g5, hg5⟩ : ∃ g, v2.heap.size = g := ⟨_, rfl⟩
    rw [hg5] at x_f x_s hgw
    simp only [hg5]
    clear hg5
    have hr0 : PgI w B G g5 (g5 + 1) (.slice A n c) (.slice A2 n2 c2) v3 := ⟨N, _, _, _, _, _, _, _, _, _, _, rfl, rfl, hR, h.2.pq hgw (Nat.le_trans hgw (Nat.le_of_lt x_f.lt)), h2.2.pq hgw (Nat.le_trans hgw (Nat.le_of_lt x_f.lt)), hP, hQ, hn, hn2, ⟨_, _, _, _, x_f, z5.zr.kto hB1⟩, ⟨_, _, _, _, x_s, z6.zr.kto hB1⟩, hb⟩
    clear h h2 hR hP hQ hn hn2 x_f x_s z5 z6 hb hlt
    go_loopw [0, 1] (fun pv qv wr => PgI w B G g5 (g5 + 1) pv qv wr) (fun _ qv _ => lenOf qv)
    case atStart => exact hr0
    case round =>
      clear hr0
      obtain ⟨N9, A7, n7, c7, A8, n8, c8, P9, Q9, f, s, rfl, rfl, hR, h, h2, hP, hQ, hn, hn2, ⟨bf, Af, nf9, cf, x_f, z_f⟩, ⟨bs, As, ns, cs, x_s, z_s⟩, hb⟩ := hrel
      have hl := h.len; have hl2 := h2.len
      rcases N9 with _ | N9
      · exact hR.elim
      rcases hR with ⟨hQ1, hG⟩ | ⟨hQ0, hG⟩ | ⟨r, Q2, u, f2, s2, d, gap, ⟨hQd, hd1, hPd, hNr⟩, ⟨hu, heq, hbd⟩, ⟨hδ, hQ2, hf2⟩, hs2, ⟨hsz, hfB, hsB⟩, hR⟩
      · have h81 : n8 = 1 := by omega
        subst h81
        subst hG
        clear h h2 hl hl2 x_f x_s z_f z_s
        go_wp2_with fail
        with_reducible refine (ZOf_any 1 (by omega) (by omega)).mono ?_
        rintro e v9 ⟨A10, n10, c10, rfl, z10, hb1⟩
        replace hb := bthen hb hb1
        clear hb1
        go_wp2
        refine al1 fun v10 hb1 x_o => ?_
        have hpo := (Pw.one x_o (z10.keep hb1)).po hb.size
        replace hb := bthen hb hb1
        go_ret
        exact ⟨_, 1, 1, rfl, hpo.kto (by omega), hb⟩
      · subst hQ0
        have h80 : n8 = 0 := by simpa using hl2.symm
        subst h80
        subst hG
        clear h2 hl2 x_f x_s z_f z_s
        go_wp2_with fail
        with_reducible refine (PPrimitive_any h.pd (by omega)).mono ?_
        rintro e v9 ⟨A10, n10, c10, rfl, p10, hb1⟩
        replace p10 := p10.more hb.size
        replace hb := bthen hb hb1
        have HPR : Hid (Po v9 w.heap.size A10 n10 c10 (primL P9) (B + 1)) := Lib.hid p10
        clear hb1 p10
        go_wp2
        go_ret
        exact ⟨A10, n10, c10, rfl, HPR.out, hb⟩
      · have h8d : 1 < n8 := by omega
        have hgid : IntKind.i64.wrap ((n7 : Int) - n8) = (gap : Int) := by rw [i64_keep (by omega) (by omega)]; omega
        have hgb : gap ≤ 98 := by omega
        have hd0 : (nf Q9).length - 1 = d := by rw [MP.Se.nf_id hQ]; omega
        have hT0 : (nf P9).length - d = gap + 1 := by rw [MP.Se.nf_id hP]; omega
        have m1 : (gap + 1) * (B + 1) ≤ 100 * 1001 := Nat.mul_le_mul (by omega) (by omega)
        have m2 : n7 * B ≤ 100 * 1000 := Nat.mul_le_mul hn hB
        have m3 : gap * B ≤ 98 * 1000 := Nat.mul_le_mul hgb hB
        obtain ⟨KR, hKR⟩ : ∃ K, B + (gap + 1) * (B + 1) = K := ⟨_, rfl⟩
        obtain ⟨KT, hKT⟩ : ∃ K, KR + n7 * B + 1 = K := ⟨_, rfl⟩
        obtain ⟨KG, hKG⟩ : ∃ K, gap * B + 1 = K := ⟨_, rfl⟩
        have hKRb : KR ≤ 101100 := by omega
        have hKTb : KT ≤ 900000 := by omega
        have hKGb : KG ≤ 98001 := by omega
        have hKR2 := Nat.le_of_eq hKR
        have hKT2 := Nat.le_of_eq hKT
        obtain ⟨V, hV⟩ : ∃ V, s ^ gap = V := ⟨_, rfl⟩
        obtain ⟨D, hD⟩ : ∃ D, f * V = D := ⟨_, rfl⟩
        rw [hV, hD] at hδ hQ2
        have hq2 : nf ((nf r).map (· / D)) = Q2 := by rw [MP.Se.nf_id hNr]; exact hQ2.symm
        have hrl := MP.Se.nm_len hNr hbd
        have hq2l : Q2.length ≤ d := by rw [hQ2]; refine Nat.le_trans (MP.Se.nf_len _) ?_; rw [List.length_map]; exact hrl
        have hNq2 : MP.Se.Nm Q2 := by rw [hQ2]; exact MP.Se.nm_nf _
        have hld : ldL Q9 = f2 := by rw [ldL_is hQd hQ]; exact hf2.symm
        have HV := Lib.hid hV; have HDD := Lib.hid hD; have HQ2 := Lib.hid hq2; have HLD := Lib.hid hld; have HQ2L := Lib.hid hq2l; have HKG := Lib.hid hKG; have HS2 := Lib.hid hs2; have HSZ := Lib.hid hsz; have HSB := Lib.hid hsB; have HFB := Lib.hid hfB; have HR9 := Lib.hid hR; have HQD := Lib.hid hQd; have HEQ := Lib.hid heq
        have HL8 : Hid (n8 = d + 1) := Lib.hid (by omega)
        clear hV hD hq2 hld hq2l hKG hs2 hsz hsB hfB hR hQd hPd hf2 hQ2 hl hl2 heq hKR hKT hrl
        have q_f := x_f.al
        have q_s := x_s.al
        go_wp2_with fail
        with_reducible refine (PRest_any (J := B) (J2 := B) (K := KR) (K2 := KT) (d := d) (T := gap + 1) h.pd h2.pd (by omega) hd0 hT0 hKR2 hKT2 hKTb (by omega)).mono ?_
        rintro e v9 ⟨hb1, hcase⟩
        rcases hcase with ⟨h0, _⟩ | ⟨_, L, A9, m9, c9, L2, A10, m10, c10, hNL, hNL2, heq2, hbd2, rfl, p9, p10⟩
        · exact absurd h0 (fun e => nm_last hQ HQD.out (by rw [e]; cases d <;> rfl))
        obtain rfl : L2 = r := rest_is HQD.out hQ hNr hu HEQ.out hbd hNL2 heq2 hbd2
        obtain ⟨x_f, x_s, h, h2, z_f, z_s, hb⟩ := mv7 hb1 x_f x_s h h2 z_f z_s hb
        clear hb1
        replace q_f := x_f.al
        replace q_s := x_s.al
        clear hNL hNL2 heq2 hbd2 p9 hu hbd hKR2 hKT2 hd0 hT0
        go_upto_region 7 with fail
        go_region_held3 (fun w' => w'.cell? ⟨g5, 0, none⟩ = some (.bool bf) ∧ w'.cell? ⟨g5, 1, none⟩ = some (.slice Af nf9 cf) ∧ w'.cell? ⟨g5 + 1, 0, none⟩ = some (.bool bs) ∧ w'.cell? ⟨g5 + 1, 1, none⟩ = some (.slice As ns cs))
          (first | (with_reducible exact ⟨x_f.c0, x_f.c1, x_s.c0, x_s.c1⟩) | go_keep)
          (first | (go_at_call 94; (with_reducible refine (PPower_any (m := gap) z_s.drw (by omega) (by omega)).mono ?_); rintro e v1 ⟨A11, n11, c11, rfl, z11, hb1⟩; replace hb1 := undrew hb1; obtain ⟨x_f, x_s, h, h2, z_f, z_s, p10, hb⟩ := mv8 hb1 x_f x_s h h2 z_f z_s p10 hb; clear hb1; replace q_f := x_f.al; replace q_s := x_s.al; rw [HV.out, HKG.out] at z11; rw [HV.out]) | (go_at_call 40; (with_reducible refine (ZMul_any z_f z11.zr (B + KG) (Nat.le_refl _) (by omega)).mono ?_); rintro e v2 ⟨A12, n12, c12, rfl, z12, hb1⟩; obtain ⟨x_f, x_s, h, h2, z_f, z_s, p10, z11, hb⟩ := mv9 hb1 x_f x_s h h2 z_f z_s p10 z11 hb; clear hb1; replace q_f := x_f.al; replace q_s := x_s.al; rw [HDD.out] at z12; rw [HDD.out]) | (go_at_call 67; (with_reducible refine (PShrink_any (K := 200000) p10.pd z12.zr (.inl hδ) (by omega) (by omega) (by omega)).mono ?_); rintro e v3 ⟨A13, m13, c13, rfl, p13, hb1⟩; have lt13 := x_s.lt; obtain ⟨x_f, x_s, h, h2, z_f, z_s, p10, z11, z12⟩ := mv9 hb1 x_f x_s h h2 z_f z_s p10 z11 z12; replace hb := Mv.mv hb hb1; clear hb1; replace q_f := x_f.al; replace q_s := x_s.al; rw [HQ2.out] at p13))
        replace p13 := p13.pq lt13 HSZ.out
        clear z11 z12 p10
        go_wp2_with fail
        with_reducible refine (PLead_any h2.pd (by omega)).mono ?_
        rintro e v4 ⟨b14, A14, n14, c14, rfl, z14, hb1⟩
        obtain ⟨x_f, x_s, h, h2, z_f, z_s, p13, hb⟩ := mv8 hb1 x_f x_s h h2 z_f z_s p13 hb
        clear hb1
        replace q_f := x_f.al
        replace q_s := x_s.al
        rw [HLD.out] at z14
        go_upto_region 9 with fail
        clear q_f q_s
        refine x_f.st fun v5 hs hx => ?_
        obtain ⟨x_s, h, h2, z_f, z_s, p13, z14, hb⟩ := ms8 hs ⟨by omega, by omega, by omega, trivial, trivial, by omega, trivial, by omega⟩ x_s h h2 z_f z_s p13 z14 hb
        replace x_f := hx; clear hx hs
        have q_f := x_f.al
        have q_s := x_s.al
        rcases HS2.out with ⟨hg0, hs2⟩ | ⟨hg0, hne, hs2⟩
        · have hgz : ¬ (0 : Int) < (gap : Int) := by omega
          have hgz2 : ¬ 0 < gap := by omega
          subst hs2
          go_wp2
          have hm13 := p13.len
          have hq9 := HQ2L.out
          have hq8 := HL8.out
          exact ⟨⟨N9, A8, n8, c8, A13, m13, c13, Q9, Q2, f2, _, rfl, rfl, HR9.out, h2, p13, hQ, hNq2, hn2, by omega, ⟨_, _, _, _, x_f, z14⟩, ⟨_, _, _, _, x_s, z_s⟩, hb⟩, by simp [lenOf]; omega⟩
        · have hgp : (0 : Int) < (gap : Int) := by omega
          obtain ⟨gj, hgj⟩ : ∃ j, gap - 1 = j := ⟨_, rfl⟩
          have hid5 : IntKind.i64.wrap ((gap : Int) - 1) = (gj : Int) := by rw [i64_keep (by omega) (by omega)]; omega
          rw [hgj] at hne hs2
          have hgj98 : gj ≤ 98 := by omega
          have m4 : gj * B ≤ 98 * 1000 := Nat.mul_le_mul hgj98 hB
          obtain ⟨V3, hV3⟩ : ∃ V, f2 ^ gap = V := ⟨_, rfl⟩
          obtain ⟨V4, hV4⟩ : ∃ V, s ^ gj = V := ⟨_, rfl⟩
          rw [hV3, hV4] at hs2
          rw [hV4] at hne
          have HV3 := Lib.hid hV3; have HV4 := Lib.hid hV4; have HSS := Lib.hid hs2
          obtain ⟨KJ, hKJ⟩ : ∃ K, gj * B + 1 = K := ⟨_, rfl⟩
          have HKJ := Lib.hid hKJ
          have hKJb : KJ ≤ 98001 := by omega
          have hgj9 : gj ≤ 1000 := by omega
          have hg9 : gap ≤ 1000 := by omega
          clear hV3 hV4 hs2 hKJ hgj
          go_upto_region 10 with fail
          go_region_law (first | (go_simp; go_at_call 94; (with_reducible refine (PPower_any (m := gap) z14.drw hg9 (by omega)).mono ?_); rintro e v6 ⟨A15, n15, c15, rfl, z15, hb1⟩; replace hb1 := undrew hb1; obtain ⟨x_f, x_s, h, h2, z_f, z_s, p13, z14, hb⟩ := mv9 hb1 x_f x_s h h2 z_f z_s p13 z14 hb; clear hb1; replace q_f := x_f.al; replace q_s := x_s.al; rw [HV3.out, HKG.out] at z15; rw [HV3.out]) | (go_simp; go_at_call 94; (with_reducible refine (PPower_any (m := gj) z_s hgj9 (by omega)).mono ?_); rintro e v7 ⟨A16, n16, c16, rfl, z16, hb1⟩; obtain ⟨x_f, x_s, h, h2, z_f, z_s, p13, z14, z15⟩ := mv9 hb1 x_f x_s h h2 z_f z_s p13 z14 z15; replace hb := Mv.mv hb hb1; clear hb1; replace q_f := x_f.al; replace q_s := x_s.al; rw [HV4.out, HKJ.out] at z16; rw [HV4.out]) | (go_simp; go_at_call 59; (with_reducible refine (ZDivMod_any z15.zr z16.zr hne 200000 (by omega) (by omega) (by omega)).mono ?_); rintro e v8 ⟨A17, n17, c17, A18, n18, c18, rfl, z17, z18, hb1⟩; obtain ⟨x_f, x_s, h, h2, z_f, z_s, p13, z14, z15⟩ := mv9 hb1 x_f x_s h h2 z_f z_s p13 z14 z15; obtain ⟨z16, hb⟩ := mv2 hb1 z16 hb; clear hb1; replace q_f := x_f.al; replace q_s := x_s.al; rw [← HSS.out] at z17; rw [← HSS.out]))
          all_goals
            replace z17 := z17.slim HSB.out
            clear q_f q_s z18 z15 z16
            go_wp2
            have hm13 := p13.len
            have hq9 := HQ2L.out
            have hq8 := HL8.out
            have hq13 : m13 ≤ 100 := by omega
            refine ⟨?_, by simp [lenOf]; omega⟩
            refine x_s.st (F := PgI w B G g5 (g5 + 1) (.slice A8 n8 c8) (.slice A13 m13 c13)) fun v9 hs hx => ?_
            obtain ⟨x_f, h, h2, z_f, z_s, p13, z14, z17, hb⟩ := ms9 hs ⟨by omega, by omega, by omega, trivial, trivial, by omega, trivial, trivial, by omega⟩ x_f h h2 z_f z_s p13 z14 z17 hb
            replace x_s := hx; clear hx hs
            have q_f := x_f.al
            have q_s := x_s.al
            exact ⟨N9, A8, n8, c8, A13, m13, c13, Q9, Q2, f2, s2, rfl, rfl, HR9.out, h2, p13, hQ, hNq2, hn2, hq13, ⟨_, _, _, _, x_f, z14⟩, ⟨_, _, _, _, x_s, z17.zr⟩, hb⟩
end Go.Proofs.Ytnidohbbimfpjaa
