/-
  rows: generators.
-/
import Derived.Test.YtiikmjnnlckiiaaKfun
namespace Go.Proofs.Ytiikmjnnlckiiaa
open Go.RowKit
set_option linter.unusedVariables false

theorem Zn.nul (w : World) (k : Nat) : Zn w none 0 0 0 k := ⟨by show Rd w w.heap.size none 0 0 (dg Wd 0); rw [dg_zero]; exact Rd.nil, Nat.zero_le _⟩
/-- A generator's state: k terms are given; whatever turns from B on does not touch it. -/
def Gs (B : Nat) (I : World → Nat → Prop) (w : World) (k : Nat) : Prop := I w k ∧ B ≤ w.heap.size ∧ ∀ v v' j, I v j → Fr (fun b => B ≤ b) v v' → I v' j
section
variable {B g k n c m d n' c' m' d' : Nat} {I : World → Nat → Prop} {w w' : World} {b p b' p' : Bool} {A A2 A' B' : Option Addr} {v v' : Value} {t : TypeId} {P : Nat → Prop}
theorem Gs.via (h : Gs B I w k) (hf : Fr P w w') (hP : ∀ b, P b → B ≤ b) : Gs B I w' k := ⟨h.2.2 _ _ _ h.1 (hf.mono (fun b _ hb => hP b hb)), Nat.le_trans h.2.1 hf.size, h.2.2⟩
theorem Gs.keep (h : Gs B I w k) (hb : Below w.heap.size w w') : Gs B I w' k := h.via (P := fun _ => False) (Fr.of hb) (fun _ f => f.elim)
instance Gs.mv {v w : World} : Mv (Gs B I v k) v w (Gs B I w k) := ⟨fun h hb => Gs.keep h hb⟩
theorem Gs.drw (h : Gs B I w k) : Gs B I w.drew k := h.keep (below_drew (Below.refl _ _))
theorem Gs.put (h : Gs B I w k) (hg : B ≤ g) (x : Bx w g b A n c) : Gs B I ((w.setCell ⟨g, 0, none⟩ (.bool b')).setCell ⟨g, 1, none⟩ (.slice A' n' c')) k := h.via (P := fun b => B ≤ b) ((Fr.refl w).put (Or.inl hg) x) (fun _ e => e)
theorem Gs.putK (h : Gs B I w k) (hg : B ≤ g) (x : Kx w g b A n c p A2 m d) : Gs B I ((((w.setCell ⟨g, 0, none⟩ (.bool b')).setCell ⟨g, 1, none⟩ (.slice A' n' c')).setCell ⟨g, 2, none⟩ (.bool p')).setCell ⟨g, 3, none⟩ (.slice B' m' d')) k := h.via (P := fun b => B ≤ b) ((Fr.refl w).putK (Or.inl hg) x) (fun _ e => e)
theorem Gs.putH (h : Gs B I w k) (hg : B ≤ g) (x : Kx w g b A n c p A2 m d) : Gs B I ((w.setCell ⟨g, 2, none⟩ (.bool b')).setCell ⟨g, 3, none⟩ (.slice A' n' c')) k := h.via (P := fun b => B ≤ b) ((Fr.refl w).putH (Or.inl hg) x) (fun _ e => e)
theorem Gs.putC (h : Gs B I w k) (hg : B ≤ g) (x : Cx w g v t) : Gs B I (w.setCell ⟨g, 0, none⟩ v') k := h.via (P := fun b => B ≤ b) ((Fr.refl w).putC (Or.inl hg) x) (fun _ e => e)
theorem Fr.own {Q : Nat → Prop} {W v w' : World} (h : Fr P W v) (h2 : Fr Q v w') (hQ : ∀ b, Q b → P b ∨ W.heap.size ≤ b) : Fr P W w' := by
  refine ⟨h2.os.trans h.os, h2.tape.trans h.tape, h2.output.trans h.output, Nat.le_trans h.size h2.size, fun k hk hp => ?_, fun _ _ _ _ hr => h2.rd _ _ _ _ (h.rd _ _ _ _ hr)⟩
  exact (h2.block k (Nat.lt_of_lt_of_le hk h.size) (fun q => (hQ k q).elim hp (by omega))).trans (h.block k hk hp)
end
/-- The k-th terms, and the generator has gone on. -/
def GPost (P : Nat → Prop) (B : Nat) (I : World → Nat → Prop) (f g : Nat → Int) (w : World) (k : Nat) (e : Ending) (w' : World) : Prop :=
  ∃ b A n c b2 A2 n2 c2, e = .returned (.agg #[.bool b, .slice A n c, .bool b2, .slice A2 n2 c2]) ∧ Zr w' b A n c (f k) 20 ∧ Zr w' b2 A2 n2 c2 (g k) 20 ∧ Gs B I w' (k + 1) ∧ Fr P w w'
/-- A function value that hands back one pair of terms after the other. -/
structure Gen (P : Nat → Prop) (B fid : Nat) (caps : Array Value) (I : World → Nat → Prop) (f g : Nat → Int) (N : Nat) : Prop where
  ent : ∀ (args : Array Value) (w : World), (callFunc fid args).run Try.prog w = .ok (.enter fid args) w
  lt : ∀ b, P b → b < B
  step : ∀ (w : World) (k : Nat), k ≤ N → Gs B I w k → Calls Try.prog fid caps w (GPost P B I f g w k)
/-- A new one. -/
def GNew (f g : Nat → Int) (N : Nat) (w : World) (e : Ending) (w' : World) : Prop :=
  ∃ fid caps P I B, e = .returned (.func (.func fid) #[] caps) ∧ Gen P B fid caps I f g N ∧ Gs B I w' 0 ∧ (∀ b, P b → w.heap.size ≤ b) ∧ Below w.heap.size w w'
/-- A function value that answers the k-th divisor. -/
structure Dv (B fid : Nat) (caps : Array Value) (I : World → Nat → Prop) (D : Nat → Int) : Prop where
  ent : ∀ (args : Array Value) (w : World), (callFunc fid args).run Try.prog w = .ok (.enter fid args) w
  step : ∀ (w : World) (k : Nat), k ≤ 1900 → Gs B I w 0 → Calls Try.prog fid (#[.int .i64 ((k : Int) + 1)] ++ caps) w (OutZ w (D k) 129)
/-- The box g of bounds holds X and Y now; all else is as it was. -/
def StK (V : World) (g : Nat) (X Y : Int) (wx : World) : Prop := ∃ A n c A2 n2 c2, Kx wx g (ngB X) A n c (ngB Y) A2 n2 c2 ∧ Zn wx A n c X 20 ∧ Zn wx A2 n2 c2 Y 20 ∧ Fr (fun b => b = g) V wx
theorem StK.put {V v : World} {g n c m d n' c' m' d' : Nat} {b p : Bool} {A B A' B' : Option Addr} {X Y : Int} (hv : Below V.heap.size V v) (x : Kx v g b A n c p B m d) (z : Zn v A' n' c' X 20) (z2 : Zn v B' m' d' Y 20) : StK V g X Y ((((v.setCell ⟨g, 0, none⟩ (.bool (ngB X))).setCell ⟨g, 1, none⟩ (.slice A' n' c')).setCell ⟨g, 2, none⟩ (.bool (ngB Y))).setCell ⟨g, 3, none⟩ (.slice B' m' d')) :=
  ⟨A', n', c', B', m', d', x.put _ _ _ _ _ _ _ _, z.putK x, z2.putK x, (Fr.of hv).putK (Or.inl rfl) x⟩
/-- What terms' closure keeps: the number of the term last given, and the term. -/
def TmI (gk gt gf gd : Nat) (bF : Bool) (AF : Option Addr) (nF cF : Nat) (M : Int) (fid : Nat) (caps : Array Value) (BD : Nat) (ID : World → Nat → Prop) (f g : Nat → Int) (w : World) (k : Nat) : Prop :=
  Cx w gk (.int .i64 ((k : Int) - 1)) 2 ∧ (∃ b A n c b2 A2 n2 c2, Kx w gt b A n c b2 A2 n2 c2 ∧ Zr w b A n c (f (k - 1)) 20 ∧ Zr w b2 A2 n2 c2 (g (k - 1)) 20) ∧ Bx w gf bF AF nF cF ∧ Zr w bF AF nF cF M 40 ∧ Cx w gd (.func (.func fid) #[] caps) 33 ∧ Gs BD ID w 0
theorem TmI.keep {gk gt gf gd BD B nF cF fid : Nat} {bF : Bool} {AF : Option Addr} {M : Int} {caps : Array Value} {ID : World → Nat → Prop} {f g : Nat → Int} (h1 : gk < B) (h2 : gt < B) (h3 : gf < B) (h4 : gd < B) (h5 : BD ≤ B) (v v' : World) (j : Nat) (h : TmI gk gt gf gd bF AF nF cF M fid caps BD ID f g v j) (hf : Fr (fun b => B ≤ b) v v') : TmI gk gt gf gd bF AF nF cF M fid caps BD ID f g v' j := by
  obtain ⟨a1, ⟨b, A, n, c, b2, A2, n2, c2, a2, a3, a4⟩, a5, a6, a7, a8⟩ := h
  exact ⟨a1.via hf (by omega), ⟨b, A, n, c, b2, A2, n2, c2, a2.via hf (by omega), a3.via hf, a4.via hf⟩, a5.via hf (by omega), a6.via hf, a7.via hf (by omega), a8.via hf (fun b hb => by omega)⟩
end Go.Proofs.Ytiikmjnnlckiiaa
