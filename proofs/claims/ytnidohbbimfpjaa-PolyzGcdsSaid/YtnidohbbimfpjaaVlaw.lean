/-
  polyz: how a law begins.
-/
import Derived.Test.YtnidohbbimfpjaaVshow
namespace Go.Proofs.Ytnidohbbimfpjaa
open Go.RowKit
open MP.Se (nf co)
set_option linter.unusedVariables false
set_option maxRecDepth 100000

/-- L is a list of the series s, of at most N numbers. -/
def Lb (L : List Int) (s : MP.Se) (N : Nat) : Prop := co L = s ∧ MP.Se.Bd s N
section
variable {L M : List Int} {s t : MP.Se} {N n K : Nat}
theorem Lb.out (e : Lb L s N) : co L = s := e.1
theorem Lb.bd (e : Lb L s N) : MP.Se.Bd s N := e.2
theorem Lb.fn (e : Lb L s N) : MP.Se.Fn s := ⟨_, e.2⟩
theorem Lb.len (e : Lb L s N) (m : MP.Se.Nm L) (h : L.length = n) : n ≤ N := h ▸ MP.Se.nm_len m (by rw [e.1]; exact e.2)
theorem Lb.same (e : Lb L s N) (e2 : Lb M t K) (m : MP.Se.Nm L) (m2 : MP.Se.Nm M) (h : s = t) : decide (L = M) = true := decide_eq_true (MP.Se.nm_ext m m2 (by rw [e.1, e2.1, h]))
theorem Lb.mk0 (h : L.length ≤ N) : Lb L (co L) N := ⟨rfl, (MP.Se.co_bd L).le h⟩
theorem Bd.mul (h : MP.Se.Bd s (n + 1)) (h2 : MP.Se.Bd t (K + 1)) : MP.Se.Bd (s * t) (n + K + 1) := (MP.Se.mul_bd h h2).1
theorem Bd.pl (h : MP.Se.Bd s n) (h2 : MP.Se.Bd t K) (hn : n ≤ N) (hk : K ≤ N) : MP.Se.Bd (s + t) N := (h.le hn).add (h2.le hk)
theorem Bd.mi (h : MP.Se.Bd s n) (h2 : MP.Se.Bd t K) (hn : n ≤ N) (hk : K ≤ N) : MP.Se.Bd (s - t) N := (h.le hn).sub (h2.le hk)
end
theorem Zr.of_rd {w : World} {b : Bool} {A : Option Addr} {n c : Nat} {l : List Int} (h : Rd w w.heap.size A n c l) : ∃ X, Zr w b A n c X n := ⟨_, l, h, rfl, Nat.le_refl _⟩
theorem PDeriveS_any {A : Option Addr} {n c J : Nat} {l : List Int} {w : World} (h : Pd w w.heap.size A n c l J) (hJ : J ≤ 900000) :
    Calls Try.prog 29 #[.slice A n c] w (OutS w (MP.Se.dr (co l)) (J + 1)) :=
  (PDerive_any h hJ).mono fun e w' h => ⟨_, MP.Se.nm_nf _, (MP.Se.co_nf _).trans (MP.Se.co_ls (MP.Se.Bd.dr (MP.Se.co_bd l))), h⟩
end Go.Proofs.Ytnidohbbimfpjaa
