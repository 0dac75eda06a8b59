/-
  polyz: primitiveGcd.
-/
import Derived.Test.YtbpamkpclofnbaaVnew
import Derived.Test.YtbpamkpclofnbaaMcof
import Derived.Test.YtbpamkpclofnbaaVqr
import Derived.Test.YtbpamkpclofnbaaVres
namespace Go.Proofs.Ytbpamkpclofnbaa
open Go.RowKit
open MP.Se (nf)
set_option linter.unusedVariables false
set_option maxRecDepth 100000

/-- What the loop of power keeps. -/
def PwR (w : World) (b : Bool) (A : Option Addr) (n c : Nat) (X : Int) (J g k : Nat) (wr : World) : Prop :=
  Bx wr w.heap.size b A n c ∧ Bx wr (w.heap.size + 1) false none 0 0 ∧ Zr wr b A n c X J ∧ (∃ A' n' c', Bx wr g (ngB (X ^ k)) A' n' c' ∧ Zn wr A' n' c' (X ^ k) (k * J + 1)) ∧ Below w.heap.size w wr
end Go.Proofs.Ytbpamkpclofnbaa
namespace Go.Proofs.Ytbpamkpclofnbaa
open Go.RowKit
open MP.Se (nf co)
set_option linter.unusedVariables false
set_option maxRecDepth 100000

/-- What a list is divided by. -/
def pdL (l : List Int) : Int := if ldL l < 0 then -ctL l else ctL l
/-- A list without its content, its lead above 0. -/
def primL (l : List Int) : List Int := nf ((nf l).map (· / pdL l))
theorem ctL_le (l : List Int) (a : Nat) : ∀ x ∈ l, x ≠ 0 → l.foldl (fun a x => (Nat.gcd a.natAbs x.natAbs : Int)) (a : Int) ≠ 0 := by
  induction l generalizing a with
  | nil => intro x h; cases h
  | cons y l ih =>
    intro x hx h0
    rw [List.foldl_cons]
    rcases List.mem_cons.1 hx with rfl | hx
    · have hpos : 0 < Nat.gcd ((a : Int)).natAbs x.natAbs := Nat.gcd_pos_of_pos_right _ (by omega)
      clear ih
      have key : ∀ (m : List Int) (b : Nat), 0 < b → m.foldl (fun a x => (Nat.gcd a.natAbs x.natAbs : Int)) (b : Int) ≠ 0 := by
        intro m
        induction m with
        | nil => intro b hb; simp; omega
        | cons z m ih2 => intro b hb; rw [List.foldl_cons]; exact ih2 _ (Nat.gcd_pos_of_pos_left _ (by omega))
      exact key l _ hpos
    · exact ih _ x hx h0
theorem ctL_ne {l : List Int} (h : nf l ≠ []) : ctL l ≠ 0 := by
  have h1 : co l ≠ MP.Se.c 0 := fun e => h (MP.Se.nf_nil_iff.2 e)
  have : ∃ x ∈ l, x ≠ 0 := by
    apply Classical.byContradiction
    intro hn
    apply h1
    refine MP.Se.ext fun i => ?_
    have hz : (MP.Se.c 0) i = 0 := by cases i <;> rfl
    rw [hz]
    by_cases hi : i < l.length
    · rw [MP.Se.co_at hi]
      apply Classical.byContradiction
      intro h0
      exact hn ⟨_, List.getElem_mem hi, h0⟩
    · exact MP.Se.co_out (by omega)
  obtain ⟨x, hx, h0⟩ := this
  exact ctL_le l 0 x hx h0
theorem pdL_ne (l : List Int) : pdL l ≠ 0 ∨ nf l = [] := by
  by_cases h : nf l = []
  · exact .inr h
  · have := ctL_ne h
    refine .inl ?_
    rw [pdL]; split <;> omega
end Go.Proofs.Ytbpamkpclofnbaa
namespace Go.Proofs.Ytbpamkpclofnbaa
open Go.RowKit
open MP.Se (nf co)
set_option linter.unusedVariables false
set_option maxRecDepth 100000

/-- What primitiveGcd does, step by step, with numbers of at most B limbs: from P and Q, and two scales, to G. -/
def PgR (B : Nat) : Nat → List Int → List Int → Int → Int → List Int → Prop
  | 0, _, _, _, _, _ => False
  | N + 1, P, Q, f, s, G => (Q.length = 1 ∧ G = [1]) ∨ (Q = [] ∧ G = primL P) ∨
    ∃ (r Q2 : List Int) (u : MP.Se) (f2 s2 : Int) (d gap : Nat), (Q.length = d + 1 ∧ 1 ≤ d ∧ P.length = d + 1 + gap ∧ MP.Se.Nm r) ∧ (MP.Se.Fn u ∧ MP.Se.sm ((co Q) d ^ (gap + 1)) (co P) = co Q * u + co r ∧ MP.Se.Bd (co r) d) ∧
      (f * s ^ gap ≠ 0 ∧ Q2 = nf (r.map (· / (f * s ^ gap))) ∧ f2 = (co Q) d) ∧ (gap = 0 ∧ s2 = s ∨ 0 < gap ∧ s ^ (gap - 1) ≠ 0 ∧ s2 = f2 ^ gap / s ^ (gap - 1)) ∧
      ((∀ x ∈ Q2, Si x B) ∧ Si f2 B ∧ Si s2 B) ∧ PgR B N Q Q2 f2 s2 G
theorem Po.fit {w : World} {B n c J K : Nat} {A : Option Addr} {l : List Int} (h : Po w B A n c l J) (hs : ∀ x ∈ l, Si x K) : Pd w w.heap.size A n c l K := by
  rcases h with ⟨rfl, rfl, rfl, rfl⟩ | ⟨g, L, rfl, hg, rfl, hn, hp, rfl⟩
  · exact Pd.nil _ _ _
  · refine ⟨by simp; omega, hn, by have := hp.len; omega, fun h0 => ⟨g, 0, rfl, hp.lt, fun k hk => ?_⟩⟩
    have hk2 : k < n ∧ k < L.length := by rw [List.length_take] at hk; omega
    obtain ⟨A, m, c, a1, a2, a3⟩ := hp.cells hk2.2
    have hx := hs _ (List.getElem_mem hk)
    rw [List.getElem_take] at hx ⊢
    rw [Nat.zero_add]
    exact ⟨_, A, m, c, a1, a2, (a3.slim hx).zr⟩
theorem kd_two' (b : Bool) (A : Option Addr) (m c : Nat) : Kd (#[Value.bool b, .slice A m c] : Array Value).toList := fun u hu x => by
  simp at hu
  rcases hu with rfl | rfl <;> simp
theorem Pw.one {w : World} {g n c K : Nat} {A : Option Addr} {X : Int} (h : w.heap[g]? = some (.cells #[.bool (ngB X), .slice A n c] 32 (0, 0))) (z : Zn w A n c X K) : Pw w g [X] K :=
  ⟨_, h, rfl, by simp, kd_two' _ _ _ _, fun k hk => by
    obtain rfl : k = 0 := by simpa using hk
    exact ⟨A, n, c, rfl, rfl, z⟩⟩
/-- A slice of integers that does not lie in the blocks g and g + 1. -/
def Pq (w : World) (g : Nat) (A : Option Addr) (n c : Nat) (l : List Int) (J : Nat) : Prop :=
  l.length = n ∧ n ≤ c ∧ n ≤ 100000 ∧ (0 < n → ∃ d o, A = some ⟨d, o, none⟩ ∧ d < w.heap.size ∧ (d < g ∨ g + 1 < d) ∧ ∀ k (hk : k < l.length), El w d (o + k * 2) l[k] J)
section
variable {w v W : World} {g h B n c J K : Nat} {A : Option Addr} {l : List Int}
theorem Pq.pd (p : Pq w g A n c l J) : Pd w w.heap.size A n c l J := ⟨p.1, p.2.1, p.2.2.1, fun hn => by
  obtain ⟨d, o, e, hd, _, hc⟩ := p.2.2.2 hn
  exact ⟨d, o, e, hd, hc⟩⟩
theorem Pq.len (p : Pq w g A n c l J) : l.length = n := p.1
theorem Pd.pq (p : Pd w B A n c l J) (hB : B ≤ g) (hg : B ≤ w.heap.size) : Pq w g A n c l J := ⟨p.1, p.2.1, p.2.2.1, fun hn => by
  obtain ⟨d, o, e, hd, hc⟩ := p.at_ hn
  exact ⟨d, o, e, by omega, .inl (by omega), hc⟩⟩
theorem Po.pq (p : Po w B A n c l J) (hB : g + 1 < B) (hs : ∀ x ∈ l, Si x K) : Pq w g A n c l K := by
  have f := p.fit hs
  refine ⟨f.1, f.2.1, f.2.2.1, fun hn => ?_⟩
  obtain ⟨d, o, e, hd, hc⟩ := f.at_ hn
  refine ⟨d, o, e, hd, .inr ?_, hc⟩
  rcases p with ⟨rfl, _⟩ | ⟨g', L, e2, hg, _⟩
  · cases e
  · rw [e2] at e; injection e with e; injection e with e; omega
theorem Pq.keep (p : Pq W g A n c l J) (hb : Below W.heap.size W v) : Pq v g A n c l J := ⟨p.1, p.2.1, p.2.2.1, fun hn => by
  obtain ⟨d, o, e, hd, hg, hc⟩ := p.2.2.2 hn
  exact ⟨d, o, e, Nat.lt_of_lt_of_le hd hb.size, hg, fun k hk => (hc k hk).keep hd hb⟩⟩
instance : Mv (Pq W g A n c l J) W v (Pq v g A n c l J) := ⟨fun x y => x.keep y⟩
instance : Ms (Pq W g A n c l J) W v h (h = g ∨ h = g + 1) (Pq v g A n c l J) := ⟨fun s hg p => ⟨p.1, p.2.1, p.2.2.1, fun hn => by
  obtain ⟨d, o, e, hd, hg2, hc⟩ := p.2.2.2 hn
  exact ⟨d, o, e, by rw [s.size]; exact hd, hg2, fun k hk => (hc k hk).sto (by omega) s⟩⟩⟩
end
/-- How long a slice is. -/
def lenOf : Value → Nat
  | .slice _ n _ => n
  | _ => 0
/-- What the loop of primitiveGcd keeps. -/
def PgI (w : World) (B : Nat) (G : List Int) (g5 g6 : Nat) (pv qv : Value) (wr : World) : Prop :=
  ∃ N A n c A2 n2 c2 P Q f s, pv = .slice A n c ∧ qv = .slice A2 n2 c2 ∧ PgR B N P Q f s G ∧ Pq wr g5 A n c P B ∧ Pq wr g5 A2 n2 c2 Q B ∧ MP.Se.Nm P ∧ MP.Se.Nm Q ∧ n ≤ 100 ∧ n2 ≤ 100 ∧
    (∃ b A n c, Bx wr g5 b A n c ∧ Zr wr b A n c f B) ∧ (∃ b A n c, Bx wr g6 b A n c ∧ Zr wr b A n c s B) ∧ Below w.heap.size w wr
theorem rest_is {P Q r L L2 : List Int} {u : MP.Se} {d T : Nat} (hQ : Q.length = d + 1) (hN : MP.Se.Nm Q) (hr : MP.Se.Nm r) (hu : MP.Se.Fn u) (e : MP.Se.sm ((co Q) d ^ T) (co P) = co Q * u + co r) (hb : MP.Se.Bd (co r) d) (hL2 : MP.Se.Nm L2) (e2 : MP.Se.sm ((co Q) d ^ T) (co P) = co Q * co L + co L2) (hb2 : MP.Se.Bd (co L2) d) : L2 = r := by
  have dq : MP.Se.Dg (co Q) d := ⟨nm_last hN hQ, (MP.Se.co_bd Q).le (by omega)⟩
  exact MP.Se.nm_ext hL2 hr (MP.Se.div_uniq dq (MP.Se.co_fn L) hu hb2 hb (e2.symm.trans e)).2
theorem ldL_is {Q : List Int} {d : Nat} (hQ : Q.length = d + 1) (hN : MP.Se.Nm Q) : ldL Q = (co Q) d := by
  rw [ldL, MP.Se.nf_id hN, hQ, Nat.add_sub_cancel]; rfl
end Go.Proofs.Ytbpamkpclofnbaa
