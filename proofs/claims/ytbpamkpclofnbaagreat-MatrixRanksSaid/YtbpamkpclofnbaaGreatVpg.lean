/-
  polyz: primitiveGcd.
-/
import Derived.Test.YtbpamkpclofnbaaGreatVpush
import Derived.Test.YtbpamkpclofnbaaGreatMcof
import Derived.Test.YtbpamkpclofnbaaGreatVqr
import Derived.Test.YtbpamkpclofnbaaGreatVres
namespace Go.Proofs.YtbpamkpclofnbaaGreat
open Go.RowKit
open MP.Se (nf)
set_option linter.unusedVariables false
set_option maxRecDepth 100000

end Go.Proofs.YtbpamkpclofnbaaGreat
namespace Go.Proofs.YtbpamkpclofnbaaGreat
open Go.RowKit
open MP.Se (nf co)
set_option linter.unusedVariables false
set_option maxRecDepth 100000

end Go.Proofs.YtbpamkpclofnbaaGreat
namespace Go.Proofs.YtbpamkpclofnbaaGreat
open Go.RowKit
open MP.Se (nf co)
set_option linter.unusedVariables false
set_option maxRecDepth 100000

theorem Po.fit {w : World} {B n c J K : Nat} {A : Option Addr} {l : List Int} (h : Po w B A n c l J) (hs : ∀ x ∈ l, Si x K) : Pd w w.heap.size A n c l K := by
  rcases h with ⟨rfl, rfl, rfl, rfl⟩ | ⟨g, L, rfl, hg, rfl, hn, hp, rfl⟩
  · exact Pd.nil _ _ _
  · refine ⟨by simp; omega, hn, by have := hp.len; omega, fun h0 => ⟨g, 0, rfl, hp.lt, fun k hk => ?_⟩⟩
    have hk2 : k < n ∧ k < L.length := by rw [List.length_take] at hk; omega
    obtain ⟨A, m, c, a1, a2, a3⟩ := hp.cells hk2.2
    have hx := hs _ (List.getElem_mem hk)
    rw [List.getElem_take] at hx ⊢
    rw [Nat.zero_add]
    exact ⟨_, A, m, c, a1, a2, (a3.slim hx).zr⟩
theorem kd_two' (b : Bool) (A : Option Addr) (m c : Nat) : Kd (#[Value.bool b, .slice A m c] : Array Value).toList := fun u hu x => by
  simp at hu
  rcases hu with rfl | rfl <;> simp
theorem Pw.one {w : World} {g n c K : Nat} {A : Option Addr} {X : Int} (h : w.heap[g]? = some (.cells #[.bool (ngB X), .slice A n c] 30 (0, 0))) (z : Zn w A n c X K) : Pw w g [X] K :=
  ⟨_, h, rfl, by simp, kd_two' _ _ _ _, fun k hk => by
    obtain rfl : k = 0 := by simpa using hk
    exact ⟨A, n, c, rfl, rfl, z⟩⟩
/-- A slice of integers that does not lie in the blocks g and g + 1. -/
def Pq (w : World) (g : Nat) (A : Option Addr) (n c : Nat) (l : List Int) (J : Nat) : Prop :=
  l.length = n ∧ n ≤ c ∧ n ≤ 100000 ∧ (0 < n → ∃ d o, A = some ⟨d, o, none⟩ ∧ d < w.heap.size ∧ (d < g ∨ g + 1 < d) ∧ ∀ k (hk : k < l.length), El w d (o + k * 2) l[k] J)
section
variable {w v W : World} {g h B n c J K : Nat} {A : Option Addr} {l : List Int}
theorem Pq.pd (p : Pq w g A n c l J) : Pd w w.heap.size A n c l J := ⟨p.1, p.2.1, p.2.2.1, fun hn => by
  obtain ⟨d, o, e, hd, _, hc⟩ := p.2.2.2 hn
  exact ⟨d, o, e, hd, hc⟩⟩
theorem Pq.len (p : Pq w g A n c l J) : l.length = n := p.1
theorem Pd.pq (p : Pd w B A n c l J) (hB : B ≤ g) (hg : B ≤ w.heap.size) : Pq w g A n c l J := ⟨p.1, p.2.1, p.2.2.1, fun hn => by
  obtain ⟨d, o, e, hd, hc⟩ := p.at_ hn
  exact ⟨d, o, e, by omega, .inl (by omega), hc⟩⟩
theorem Po.pq (p : Po w B A n c l J) (hB : g + 1 < B) (hs : ∀ x ∈ l, Si x K) : Pq w g A n c l K := by
  have f := p.fit hs
  refine ⟨f.1, f.2.1, f.2.2.1, fun hn => ?_⟩
  obtain ⟨d, o, e, hd, hc⟩ := f.at_ hn
  refine ⟨d, o, e, hd, .inr ?_, hc⟩
  rcases p with ⟨rfl, _⟩ | ⟨g', L, e2, hg, _⟩
  · cases e
  · rw [e2] at e; injection e with e; injection e with e; omega
theorem Pq.keep (p : Pq W g A n c l J) (hb : Below W.heap.size W v) : Pq v g A n c l J := ⟨p.1, p.2.1, p.2.2.1, fun hn => by
  obtain ⟨d, o, e, hd, hg, hc⟩ := p.2.2.2 hn
  exact ⟨d, o, e, Nat.lt_of_lt_of_le hd hb.size, hg, fun k hk => (hc k hk).keep hd hb⟩⟩
instance : Mv (Pq W g A n c l J) W v (Pq v g A n c l J) := ⟨fun x y => x.keep y⟩
instance : Ms (Pq W g A n c l J) W v h (h = g ∨ h = g + 1) (Pq v g A n c l J) := ⟨fun s hg p => ⟨p.1, p.2.1, p.2.2.1, fun hn => by
  obtain ⟨d, o, e, hd, hg2, hc⟩ := p.2.2.2 hn
  exact ⟨d, o, e, by rw [s.size]; exact hd, hg2, fun k hk => (hc k hk).sto (by omega) s⟩⟩⟩
end
/-- How long a slice is. -/
def lenOf : Value → Nat
  | .slice _ n _ => n
  | _ => 0
theorem rest_is {P Q r L L2 : List Int} {u : MP.Se} {d T : Nat} (hQ : Q.length = d + 1) (hN : MP.Se.Nm Q) (hr : MP.Se.Nm r) (hu : MP.Se.Fn u) (e : MP.Se.sm ((co Q) d ^ T) (co P) = co Q * u + co r) (hb : MP.Se.Bd (co r) d) (hL2 : MP.Se.Nm L2) (e2 : MP.Se.sm ((co Q) d ^ T) (co P) = co Q * co L + co L2) (hb2 : MP.Se.Bd (co L2) d) : L2 = r := by
  have dq : MP.Se.Dg (co Q) d := ⟨nm_last hN hQ, (MP.Se.co_bd Q).le (by omega)⟩
  exact MP.Se.nm_ext hL2 hr (MP.Se.div_uniq dq (MP.Se.co_fn L) hu hb2 hb (e2.symm.trans e)).2
end Go.Proofs.YtbpamkpclofnbaaGreat
