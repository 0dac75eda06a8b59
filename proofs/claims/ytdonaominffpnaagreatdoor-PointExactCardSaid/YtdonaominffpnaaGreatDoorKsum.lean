/-
 rows: sum.
-/
import Derived.Test.YtdonaominffpnaaGreatDoorKfun
namespace Go.Proofs.YtdonaominffpnaaGreatDoor
set_option maxRecDepth 100000
set_option maxHeartbeats 8000000
set_option linter.unusedVariables false
open Go.RowKit
def okB (X q n d : Int) : Bool := decide (0 ≤ q ∧ q ≤ 1200 ∧ 1 ≤ n ∧ n ≤ 400 ∧ 0 ≤ X) && decide (2 * X ≤ d * 2 ^ sc q)
theorem Kallowed_any {b : Bool} {A : Option Addr} {n c : Nat} {X : Int} {j : Nat} {w : World} (h : Zr w b A n c X j) (q m d : Int) (hd : 1 ≤ d ∧ d ≤ 10) (hj : j ≤ 1000) :
  Calls Tryz.prog 223 #[.agg #[.bool b, .slice A n c], .int .i64 q, .int .i64 m, .int .i64 d] w fun en w' => en = .returned (.bool (okB X q m d)) ∧ Below w.heap.size w w' := by
 unfold okB
 obtain ⟨G, hG⟩ : ∃ G, decide (0 ≤ q ∧ q ≤ 1200 ∧ 1 ≤ m ∧ m ≤ 400 ∧ 0 ≤ X) = G := ⟨_, rfl⟩
 obtain ⟨L, hL⟩ : ∃ L, decide (2 * X ≤ d * 2 ^ sc q) = L := ⟨_, rfl⟩
 rw [hG, hL]
 have HG := Lib.hid hG; have HL := Lib.hid hL; clear hG hL
 go_enter Tryz.func223, Tryz.ntmps223
 go_upto_region 1 with fail
 have x_a : Bx (w.alloc (.cells #[.bool b, .slice A n c] 24)) (w.heap.size) b A n c := by have := Bx.new w b A n c; simpa using this
 have hb : Below w.heap.size w (w.alloc (.cells #[.bool b, .slice A n c] 24)) := (Below.alloc (Below.refl w.heap.size w) (by simp) (.cells #[.bool b, .slice A n c] 24))
 generalize w.alloc (.cells #[.bool b, .slice A n c] 24) = v1 at *
 replace h := h.keep hb
 have q_a := x_a.al
 have hv0 := Below.refl v1.heap.size v1
 go_cut [27] (fun s9 wx => s9 = .bool (!G) ∧ Below v1.heap.size v1 wx)
 case first =>
  rcases sgnK X with ⟨sX, hX⟩ | ⟨sX, hX⟩ | ⟨sX, hX⟩
  ·have HS := Lib.hid sX; clear sX
   rcases (show q < 0 ∨ (0 ≤ q ∧ 1200 < q) ∨ (0 ≤ q ∧ q ≤ 1200 ∧ m < 1) ∨ (0 ≤ q ∧ q ≤ 1200 ∧ 1 ≤ m ∧ 400 < m) ∨ (0 ≤ q ∧ q ≤ 1200 ∧ 1 ≤ m ∧ m ≤ 400) by omega) with o1 | ⟨o1, o2⟩ | ⟨o1, o2, o3⟩ | ⟨o1, o2, o3, o4⟩ | ⟨o1, o2, o3, o4⟩
   ·have HF : Hid (G = false) := Lib.hid (by rw [← HG.out]; simp; omega)
    go_wp2_with fail
    go_meet
    exact ⟨by rw [HF.out]; rfl, hv0⟩
   ·have HF : Hid (G = false) := Lib.hid (by rw [← HG.out]; simp; omega)
    go_wp2_with fail
    go_meet
    exact ⟨by rw [HF.out]; rfl, hv0⟩
   ·have HF : Hid (G = false) := Lib.hid (by rw [← HG.out]; simp; omega)
    go_wp2_with fail
    go_meet
    exact ⟨by rw [HF.out]; rfl, hv0⟩
   ·have HF : Hid (G = false) := Lib.hid (by rw [← HG.out]; simp; omega)
    go_wp2_with fail
    go_meet
    exact ⟨by rw [HF.out]; rfl, hv0⟩
   ·have HF : Hid (G = false) := Lib.hid (by rw [← HG.out]; simp; omega)
    clear hX
    go_wp2_with fail
    with_reducible refine (ZSign_any h (by omega)).mono ?_
    rintro e v2 ⟨rfl, hb1⟩
    replace hv0 := bthen hv0 hb1
    obtain ⟨x_a, h⟩ := mv2 hb1 x_a h
    replace hb := bthen hb hb1
    clear hb1
    replace q_a := x_a.al
    rw [HS.out]
    go_wp2_with fail
    go_meet
    exact ⟨by rw [HF.out]; first | rfl | (simp; omega), hv0⟩
  ·have HS := Lib.hid sX; clear sX
   rcases (show q < 0 ∨ (0 ≤ q ∧ 1200 < q) ∨ (0 ≤ q ∧ q ≤ 1200 ∧ m < 1) ∨ (0 ≤ q ∧ q ≤ 1200 ∧ 1 ≤ m ∧ 400 < m) ∨ (0 ≤ q ∧ q ≤ 1200 ∧ 1 ≤ m ∧ m ≤ 400) by omega) with o1 | ⟨o1, o2⟩ | ⟨o1, o2, o3⟩ | ⟨o1, o2, o3, o4⟩ | ⟨o1, o2, o3, o4⟩
   ·have HF : Hid (G = false) := Lib.hid (by rw [← HG.out]; simp; omega)
    go_wp2_with fail
    go_meet
    exact ⟨by rw [HF.out]; rfl, hv0⟩
   ·have HF : Hid (G = false) := Lib.hid (by rw [← HG.out]; simp; omega)
    go_wp2_with fail
    go_meet
    exact ⟨by rw [HF.out]; rfl, hv0⟩
   ·have HF : Hid (G = false) := Lib.hid (by rw [← HG.out]; simp; omega)
    go_wp2_with fail
    go_meet
    exact ⟨by rw [HF.out]; rfl, hv0⟩
   ·have HF : Hid (G = false) := Lib.hid (by rw [← HG.out]; simp; omega)
    go_wp2_with fail
    go_meet
    exact ⟨by rw [HF.out]; rfl, hv0⟩
   ·have HF : Hid (G = true) := Lib.hid (by rw [← HG.out]; simp; omega)
    clear hX
    go_wp2_with fail
    with_reducible refine (ZSign_any h (by omega)).mono ?_
    rintro e v2 ⟨rfl, hb1⟩
    replace hv0 := bthen hv0 hb1
    obtain ⟨x_a, h⟩ := mv2 hb1 x_a h
    replace hb := bthen hb hb1
    clear hb1
    replace q_a := x_a.al
    rw [HS.out]
    go_wp2_with fail
    go_meet
    exact ⟨by rw [HF.out]; first | rfl | (simp; omega), hv0⟩
  ·have HS := Lib.hid sX; clear sX
   rcases (show q < 0 ∨ (0 ≤ q ∧ 1200 < q) ∨ (0 ≤ q ∧ q ≤ 1200 ∧ m < 1) ∨ (0 ≤ q ∧ q ≤ 1200 ∧ 1 ≤ m ∧ 400 < m) ∨ (0 ≤ q ∧ q ≤ 1200 ∧ 1 ≤ m ∧ m ≤ 400) by omega) with o1 | ⟨o1, o2⟩ | ⟨o1, o2, o3⟩ | ⟨o1, o2, o3, o4⟩ | ⟨o1, o2, o3, o4⟩
   ·have HF : Hid (G = false) := Lib.hid (by rw [← HG.out]; simp; omega)
    go_wp2_with fail
    go_meet
    exact ⟨by rw [HF.out]; rfl, hv0⟩
   ·have HF : Hid (G = false) := Lib.hid (by rw [← HG.out]; simp; omega)
    go_wp2_with fail
    go_meet
    exact ⟨by rw [HF.out]; rfl, hv0⟩
   ·have HF : Hid (G = false) := Lib.hid (by rw [← HG.out]; simp; omega)
    go_wp2_with fail
    go_meet
    exact ⟨by rw [HF.out]; rfl, hv0⟩
   ·have HF : Hid (G = false) := Lib.hid (by rw [← HG.out]; simp; omega)
    go_wp2_with fail
    go_meet
    exact ⟨by rw [HF.out]; rfl, hv0⟩
   ·have HF : Hid (G = true) := Lib.hid (by rw [← HG.out]; simp; omega)
    clear hX
    go_wp2_with fail
    with_reducible refine (ZSign_any h (by omega)).mono ?_
    rintro e v2 ⟨rfl, hb1⟩
    replace hv0 := bthen hv0 hb1
    obtain ⟨x_a, h⟩ := mv2 hb1 x_a h
    replace hb := bthen hb hb1
    clear hb1
    replace q_a := x_a.al
    rw [HS.out]
    go_wp2_with fail
    go_meet
    exact ⟨by rw [HF.out]; first | rfl | (simp; omega), hv0⟩
 case rest =>
  obtain ⟨rfl, hb1⟩ := hcut
  clear hv0
  obtain ⟨x_a, h⟩ := mv2 hb1 x_a h
  replace hb := bthen hb hb1
  clear hb1
  replace q_a := x_a.al
  clear q_a
  generalize wc = vT at *
  have q_a := x_a.al
  cases G
  ·go_wp2
   go_ret
   exact ⟨by simp, hb⟩
  ·obtain ⟨C, hC⟩ : ∃ C, sgnI (X * 2 ^ sc 1 - d * 2 ^ sc q) = C := ⟨_, rfl⟩
   have hc : (C ≤ 0 ∧ L = true) ∨ (0 < C ∧ L = false) := by
    rw [← hC, ← HL.out]
    have e1 : X * 2 ^ sc 1 = 2 * X := by rw [show sc 1 = 1 from rfl]; omega
    rw [e1]
    rcases sgnK (2 * X - d * 2 ^ sc q) with ⟨s1, h1⟩ | ⟨s1, h1⟩ | ⟨s1, h1⟩
    ·exact .inl ⟨by omega, by simp; omega⟩
    ·exact .inl ⟨by omega, by simp; omega⟩
    ·exact .inr ⟨by omega, by simp; omega⟩
   have HC := Lib.hid hC; clear hC
   go_wp2_with fail
   with_reducible refine (ZShl_any h 1 1130 (by omega) (by omega)).mono ?_
   rintro e v2 ⟨A7, n7, c7, rfl, z7, hb1⟩
   obtain ⟨x_a, h⟩ := mv2 hb1 x_a h
   replace hb := bthen hb hb1
   clear hb1
   replace q_a := x_a.al
   go_wp2_with fail
   with_reducible refine (ZOf_any d (by omega) (by omega)).mono ?_
   rintro e v3 ⟨A9, n9, c9, rfl, z9, hb1⟩
   obtain ⟨x_a, h, z7⟩ := mv3 hb1 x_a h z7
   replace hb := bthen hb hb1
   clear hb1
   replace q_a := x_a.al
   go_wp2_with fail
   with_reducible refine (ZShl_any z9.zr q 130 (by omega) (by omega)).mono ?_
   rintro e v4 ⟨A8, n8, c8, rfl, z8, hb1⟩
   obtain ⟨x_a, h, z7, z9⟩ := mv4 hb1 x_a h z7 z9
   replace hb := bthen hb hb1
   clear hb1
   replace q_a := x_a.al
   go_wp2_with fail
   with_reducible refine (ZCmp_any z7.zr z8.zr (by omega) (by omega)).mono ?_
   rintro e v5 ⟨rfl, hb1⟩
   obtain ⟨x_a, h, z7, z9, z8⟩ := mv5 hb1 x_a h z7 z9 z8
   replace hb := bthen hb hb1
   clear hb1
   replace q_a := x_a.al
   rw [HC.out]
   rcases hc with ⟨c1, c2⟩ | ⟨c1, c2⟩
   all_goals (go_wp2; go_ret; exact ⟨by first | (simp [c2]; done) | (simp [c2]; omega), hb⟩)
end Go.Proofs.YtdonaominffpnaaGreatDoor
namespace Go.Proofs.YtdonaominffpnaaGreatDoor
set_option linter.unusedVariables false
open Go.RowKit
theorem Zn.nul (w : World) (k : Nat) : Zn w none 0 0 0 k := ⟨by show Rd w w.heap.size none 0 0 (dg Wd 0); rw [dg_zero]; exact Rd.nil, Nat.zero_le _⟩
def Gs (B : Nat) (I : World → Nat → Prop) (w : World) (k : Nat) : Prop := I w k ∧ B ≤ w.heap.size ∧ ∀ v v' j, I v j → Fr (fun b => B ≤ b) v v' → I v' j
section
variable {B g k n c m d n' c' m' d' : Nat} {I : World → Nat → Prop} {w w' : World} {b p b' p' : Bool} {A A2 A' B' : Option Addr} {v v' : Value} {t : TypeId} {P : Nat → Prop}
theorem Gs.via (h : Gs B I w k) (hf : Fr P w w') (hP : ∀ b, P b → B ≤ b) : Gs B I w' k := ⟨h.2.2 _ _ _ h.1 (hf.mono (fun b _ hb => hP b hb)), Nat.le_trans h.2.1 hf.size, h.2.2⟩
theorem Gs.keep (h : Gs B I w k) (hb : Below w.heap.size w w') : Gs B I w' k := h.via (P := fun _ => False) (Fr.of hb) (fun _ f => f.elim)
instance Gs.mv {v w : World} : Mv (Gs B I v k) v w (Gs B I w k) := ⟨fun h hb => Gs.keep h hb⟩
theorem Gs.drw (h : Gs B I w k) : Gs B I w.drew k := h.keep (below_drew (Below.refl _ _))
theorem Gs.putK (h : Gs B I w k) (hg : B ≤ g) (x : Kx w g b A n c p A2 m d) : Gs B I ((((w.setCell ⟨g, 0, none⟩ (.bool b')).setCell ⟨g, 1, none⟩ (.slice A' n' c')).setCell ⟨g, 2, none⟩ (.bool p')).setCell ⟨g, 3, none⟩ (.slice B' m' d')) k := h.via (P := fun b => B ≤ b) ((Fr.refl w).putK (Or.inl hg) x) (fun _ e => e)
theorem Gs.putC (h : Gs B I w k) (hg : B ≤ g) (x : Cx w g v t) : Gs B I (w.setCell ⟨g, 0, none⟩ v') k := h.via (P := fun b => B ≤ b) ((Fr.refl w).putC (Or.inl hg) x) (fun _ e => e)
theorem Fr.own {Q : Nat → Prop} {W v w' : World} (h : Fr P W v) (h2 : Fr Q v w') (hQ : ∀ b, Q b → P b ∨ W.heap.size ≤ b) : Fr P W w' := by
 refine ⟨h2.os.trans h.os, h2.tape.trans h.tape, h2.output.trans h.output, Nat.le_trans h.size h2.size, fun k hk hp => ?_, fun _ _ _ _ hr => h2.rd _ _ _ _ (h.rd _ _ _ _ hr)⟩
 exact (h2.block k (Nat.lt_of_lt_of_le hk h.size) (fun q => (hQ k q).elim hp (by omega))).trans (h.block k hk hp)
end
def GPost (P : Nat → Prop) (B : Nat) (I : World → Nat → Prop) (f g : Nat → Int) (w : World) (k : Nat) (e : Ending) (w' : World) : Prop :=
 ∃ b A n c b2 A2 n2 c2, e = .returned (.agg #[.bool b, .slice A n c, .bool b2, .slice A2 n2 c2]) ∧ Zr w' b A n c (f k) 20 ∧ Zr w' b2 A2 n2 c2 (g k) 20 ∧ Gs B I w' (k + 1) ∧ Fr P w w'
structure Gen (P : Nat → Prop) (B fid : Nat) (caps : Array Value) (I : World → Nat → Prop) (f g : Nat → Int) (N : Nat) : Prop where
 ent : ∀ (args : Array Value) (w : World), (callFunc fid args).run Tryz.prog w = .ok (.enter fid args) w
 lt : ∀ b, P b → b < B
 step : ∀ (w : World) (k : Nat), k ≤ N → Gs B I w k → Calls Tryz.prog fid caps w (GPost P B I f g w k)
def GNew (f g : Nat → Int) (N : Nat) (w : World) (e : Ending) (w' : World) : Prop :=
 ∃ fid caps P I B, e = .returned (.func (.func fid) #[] caps) ∧ Gen P B fid caps I f g N ∧ Gs B I w' 0 ∧ (∀ b, P b → w.heap.size ≤ b) ∧ Below w.heap.size w w'
structure Dv (B fid : Nat) (caps : Array Value) (I : World → Nat → Prop) (D : Nat → Int) : Prop where
 ent : ∀ (args : Array Value) (w : World), (callFunc fid args).run Tryz.prog w = .ok (.enter fid args) w
 step : ∀ (w : World) (k : Nat), k ≤ 1900 → Gs B I w 0 → Calls Tryz.prog fid (#[.int .i64 ((k : Int) + 1)] ++ caps) w (OutZ w (D k) 129)
def TmI (gk gt gf gd : Nat) (bF : Bool) (AF : Option Addr) (nF cF : Nat) (M : Int) (fid : Nat) (caps : Array Value) (BD : Nat) (ID : World → Nat → Prop) (f g : Nat → Int) (w : World) (k : Nat) : Prop :=
 Cx w gk (.int .i64 ((k : Int) - 1)) 2 ∧ (∃ b A n c b2 A2 n2 c2, Kx w gt b A n c b2 A2 n2 c2 ∧ Zr w b A n c (f (k - 1)) 20 ∧ Zr w b2 A2 n2 c2 (g (k - 1)) 20) ∧ Bx w gf bF AF nF cF ∧ Zr w bF AF nF cF M 40 ∧ Cx w gd (.func (.func fid) #[] caps) 47 ∧ Gs BD ID w 0
theorem TmI.keep {gk gt gf gd BD B nF cF fid : Nat} {bF : Bool} {AF : Option Addr} {M : Int} {caps : Array Value} {ID : World → Nat → Prop} {f g : Nat → Int} (h1 : gk < B) (h2 : gt < B) (h3 : gf < B) (h4 : gd < B) (h5 : BD ≤ B) (v v' : World) (j : Nat) (h : TmI gk gt gf gd bF AF nF cF M fid caps BD ID f g v j) (hf : Fr (fun b => B ≤ b) v v') : TmI gk gt gf gd bF AF nF cF M fid caps BD ID f g v' j := by
 obtain ⟨a1, ⟨b, A, n, c, b2, A2, n2, c2, a2, a3, a4⟩, a5, a6, a7, a8⟩ := h
 exact ⟨a1.via hf (by omega), ⟨b, A, n, c, b2, A2, n2, c2, a2.via hf (by omega), a3.via hf, a4.via hf⟩, a5.via hf (by omega), a6.via hf, a7.via hf (by omega), a8.via hf (fun b hb => by omega)⟩
end Go.Proofs.YtdonaominffpnaaGreatDoor
namespace Go.Proofs.YtdonaominffpnaaGreatDoor
set_option maxRecDepth 100000
set_option maxHeartbeats 16000000
set_option linter.unusedVariables false
open Go.RowKit
theorem field1 (b : Bool) (A : Option Addr) (n c : Nat) (b2 : Bool) (A2 : Option Addr) (n2 c2 : Nat) (w : World) : (Instr.field 190 (.agg #[.bool b, .slice A n c, .bool b2, .slice A2 n2 c2]) 1).run Tryz.prog w = .ok (.agg #[.bool b2, .slice A2 n2 c2]) w := by
 kernel_rfl
def StH (P : Nat → Prop) (V : World) (g : Nat) (b : Bool) (A : Option Addr) (n c : Nat) (Y : Int) (wx : World) : Prop :=
 ∃ A2 n2 c2, Kx wx g b A n c (ngB Y) A2 n2 c2 ∧ Zn wx A2 n2 c2 Y 25 ∧ Fr (fun b => P b ∨ b = g) V wx
section
variable {P : Nat → Prop} {B0 : Nat} {I : World → Nat → Prop} {V v : World} {g n c m d n' c' m' d' k : Nat} {b p : Bool} {A B A' B' : Option Addr} {X Y : Int}
theorem StH.put (hv : Fr P V v) (x : Kx v g b A n c p B m d) (z2 : Zn v B' m' d' Y 25) : StH P V g b A n c Y ((v.setCell ⟨g, 2, none⟩ (.bool (ngB Y))).setCell ⟨g, 3, none⟩ (.slice B' m' d')) :=
 ⟨B', m', d', x.putH _ _ _ _, z2.putH x, (hv.mono (fun b _ h => Or.inl h)).putH (Or.inl (Or.inr rfl)) x⟩
end
def SmR (P : Nat → Prop) (B : Nat) (I : World → Nat → Prop) (w : World) (g : Nat) (X Y : Int) (k : Nat) (wr : World) : Prop :=
 Fr P w wr ∧ Kx wr w.heap.size false none 0 0 false none 0 0 ∧ (∃ A n c A2 n2 c2, Kx wr g (ngB X) A n c (ngB Y) A2 n2 c2 ∧ Zn wr A n c X 20 ∧ Zn wr A2 n2 c2 Y 20) ∧ Gs B I wr k
theorem Ksum_any {P : Nat → Prop} {B fid N : Nat} {caps : Array Value} {I : World → Nat → Prop} {f g : Nat → Int} {w : World} (G : Gen P B fid caps I f g N) (hg : Gs B I w 0) (n : Nat) (hN : n ≤ N) (hn : n ≤ 500) (hf : ∀ k, k ≤ n → Si (sumI f k) 20) (hh : ∀ k, k ≤ n → Si (sumI g k) 20) :
  Calls Tryz.prog 228 #[.func (.func fid) #[] caps, .int .i64 (n : Nat)] w (OuF P w (sumI f n) (sumI g n + (g n + g n)) 25) := by
 have hB := hg.2.1
 have HE := G.ent
 go_enter Tryz.func228, Tryz.ntmps228
 go_upto_region 1 with fail
 have x_r : Kx (w.alloc (.cells #[.bool false, .slice none 0 0, .bool false, .slice none 0 0] 190)) (w.heap.size) false none 0 0 false none 0 0 := by have := Kx.new w false none 0 0 false none 0 0; simpa using this
 have hb : Below w.heap.size w (w.alloc (.cells #[.bool false, .slice none 0 0, .bool false, .slice none 0 0] 190)) := (Below.alloc (Below.refl w.heap.size w) (by simp) (.cells #[.bool false, .slice none 0 0, .bool false, .slice none 0 0] 190))
 generalize w.alloc (.cells #[.bool false, .slice none 0 0, .bool false, .slice none 0 0] 190) = v1 at *
 replace hg := hg.keep hb
 replace hb := Fr.of (P := P) hb
 have q_r := x_r.al
 go_upto_region 2 with fail
 have hb1 := below_alloc v1 (.cells #[.bool false, .slice none 0 0, .bool false, .slice none 0 0] 190)
 have l_r_t := x_r.lt
 have x_t := Kx.new v1 false none 0 0 false none 0 0
 have e_t : w.heap.size ≤ v1.heap.size := hb.size
 clear q_r
 obtain ⟨x_r, hg⟩ := mv2 hb1 x_r hg
 replace hb := hb.thenB hb1
 clear hb1
 generalize v1.alloc (.cells #[.bool false, .slice none 0 0, .bool false, .slice none 0 0] 190) = v2 at *
 have q_r := x_r.al
 have q_t := x_t.al
 have HF := Lib.hid hf; have HH := Lib.hid hh; clear hf hh
 go_wp2_with fail
 have hrel0 : SmR P B I w (v1.heap.size) (sumI f 0) (sumI g 0) 0 v2 := ⟨hb, x_r, ⟨_, _, _, _, _, _, x_t, Zn.nul _ _, Zn.nul _ _⟩, hg⟩
 clear q_r q_t
 obtain ⟨gt, hgt⟩ : ∃ g, v1.heap.size = g := ⟨_, rfl⟩
 have hgs : w.heap.size < gt := by have := x_r.lt; omega
 rw [hgt] at hrel0
 simp only [hgt]
 clear hb x_r x_t hg hgt
 go_loopw [9] (fun kv wr => ∃ k : Nat, k ≤ n ∧ kv = .int .i64 (k : Int) ∧ SmR P B I w gt (sumI f k) (sumI g k) k wr) (fun kv _ => n + 2 - (intOf kv).toNat)
 case atStart => exact ⟨0, by omega, rfl, hrel0⟩
 case round =>
  clear hrel0
  obtain ⟨k, hk, rfl, hb, x_r, ⟨At, nt, ct, As, ns, cs, x_t, z_t, z_s⟩, hg⟩ := hrel
  obtain ⟨S, hS⟩ : ∃ e, sumI f k = e := ⟨_, rfl⟩
  obtain ⟨T, hT⟩ : ∃ e, sumI g k = e := ⟨_, rfl⟩
  obtain ⟨U, hU⟩ : ∃ e, f k = e := ⟨_, rfl⟩
  obtain ⟨R, hR⟩ : ∃ e, g k = e := ⟨_, rfl⟩
  rw [hS] at x_t z_t; rw [hT] at x_t z_s
  rcases (show k = n ∨ k < n by omega) with hk2 | hk2
  ·obtain ⟨H, hH⟩ : ∃ H, T + (R + R) = H := ⟨_, rfl⟩
   have HH2 : Hid (sumI g n + (g n + g n) = H) := Lib.hid (by rw [← hk2, hT, hR]; exact hH)
   have HS2 : Hid (sumI f n = S) := Lib.hid (by rw [← hk2]; exact hS)
   have HHH := Lib.hid hH; have HR := Lib.hid hR
   clear hS hT hU hR hH
   subst hk2
   have q_r := x_r.al
   have q_t := x_t.al
   go_wp2_with fail
   with_reducible refine (G.step _ k (by omega) hg).mono ?_
   rintro e v31 ⟨bA, AA, nA, cA, bC, AC, nC, cC, rfl, z5, z6, hg2, hb1⟩
   replace x_r := x_r.via hb1 (fun hq => by have := G.lt _ hq; omega)
   replace x_t := x_t.via hb1 (fun hq => by have := G.lt _ hq; omega)
   replace z_t := z_t.via hb1
   replace z_s := z_s.via hb1
   replace hb := hb.trans hb1
   clear hb1
   replace q_r := x_r.al
   replace q_t := x_t.al
   rw [HR.out] at z6
   have hfl := field1 bA AA nA cA bC AC nC cC v31
   go_upto_region 7 with fail
   have hb1 := below_alloc v31 (.cells #[.bool bC, .slice AC nC cC] 24)
   have l_r_e := x_r.lt
   have l_t_e := x_t.lt
   have x_e := Bx.new v31 bC AC nC cC
   have e_e : w.heap.size ≤ v31.heap.size := hb.size
   clear q_r q_t
   obtain ⟨x_r, x_t, z_t, z_s, z5, z6⟩ := mv6 hb1 x_r x_t z_t z_s z5 z6
   replace hb := hb.thenB hb1
   clear hb1
   generalize v31.alloc (.cells #[.bool bC, .slice AC nC cC] 24) = v32 at *
   have q_r := x_r.al
   have q_t := x_t.al
   have q_e := x_e.al
   go_upto_region 7 with fail
   have hv := Fr.refl (P := P) v32
   go_cut [24] (fun _ wx => StH P v32 gt (ngB S) At nt ct H wx)
   case first =>
    go_region_law (first | (go_simp; go_at_call 23; (with_reducible refine (ZAdd_any z6.drw z6.drw 21 (by omega) (by omega) (by omega)).mono ?_); rintro e v33 ⟨A8, n8, c8, rfl, z8, hb1⟩; replace hb1 := undrew hb1; replace hv := hv.thenB hb1; obtain ⟨x_r, x_t, x_e, z_t, z_s, z5, z6⟩ := mv7 hb1 x_r x_t x_e z_t z_s z5 z6; replace hb := hb.thenB hb1; clear hb1; replace q_r := x_r.al; replace q_t := x_t.al; replace q_e := x_e.al) | (go_simp; go_at_call 23; (with_reducible refine (ZAdd_any z_s.zr z8.zr 25 (by omega) (by omega) (by omega)).mono ?_); rintro e v34 ⟨A9, n9, c9, rfl, z9, hb1⟩; replace hv := hv.thenB hb1; obtain ⟨x_r, x_t, x_e, z_t, z_s, z5, z6, z8⟩ := mv8 hb1 x_r x_t x_e z_t z_s z5 z6 z8; replace hb := hb.thenB hb1; clear hb1; replace q_r := x_r.al; replace q_t := x_t.al; replace q_e := x_e.al; rw [HHH.out] at z9 ⊢))
    all_goals go_wp2_with fail
    all_goals go_meet
    all_goals exact StH.put hv x_t z9
   case rest =>
    obtain ⟨AH, nH, cH, x_N, z_H, hgr⟩ := hcut
    clear hv x_t
    replace x_r := x_r.via hgr (fun hq => hq.elim (fun hq => by have := G.lt _ hq; omega) (by omega))
    replace x_e := x_e.via hgr (fun hq => hq.elim (fun hq => by have := G.lt _ hq; omega) (by omega))
    replace z_t := z_t.via hgr
    replace z_s := z_s.via hgr
    replace z5 := z5.via hgr
    replace z6 := z6.via hgr
    replace hb := Fr.own hb hgr (fun b e => e.elim Or.inl (fun e => Or.inr (by omega)))
    clear q_t
    clear q_r q_e
    generalize wc = v35 at *
    have x_t := x_N; clear x_N hgr
    have q_r := x_r.al
    have q_e := x_e.al
    have q_t := x_t.al
    clear q_e
    go_wp2_with fail
    replace x_e := x_e.asideK (b' := (ngB S)) (A' := At) (n' := nt) (c' := ct) (p' := (ngB H)) (B' := AH) (m' := nH) (d' := cH) (g := w.heap.size) (by omega)
    replace x_t := x_t.asideK (b' := (ngB S)) (A' := At) (n' := nt) (c' := ct) (p' := (ngB H)) (B' := AH) (m' := nH) (d' := cH) (g := w.heap.size) (by omega)
    replace z_t := z_t.putK (b' := (ngB S)) (A' := At) (n' := nt) (c' := ct) (p' := (ngB H)) (B' := AH) (m' := nH) (d' := cH) x_r
    replace z_s := z_s.putK (b' := (ngB S)) (A' := At) (n' := nt) (c' := ct) (p' := (ngB H)) (B' := AH) (m' := nH) (d' := cH) x_r
    replace z5 := z5.putK (b' := (ngB S)) (A' := At) (n' := nt) (c' := ct) (p' := (ngB H)) (B' := AH) (m' := nH) (d' := cH) x_r
    replace z6 := z6.putK (b' := (ngB S)) (A' := At) (n' := nt) (c' := ct) (p' := (ngB H)) (B' := AH) (m' := nH) (d' := cH) x_r
    replace z_H := z_H.putK (b' := (ngB S)) (A' := At) (n' := nt) (c' := ct) (p' := (ngB H)) (B' := AH) (m' := nH) (d' := cH) x_r
    replace hb := hb.putK (b' := (ngB S)) (A' := At) (n' := nt) (c' := ct) (p' := (ngB H)) (B' := AH) (m' := nH) (d' := cH) (Or.inr (by omega)) x_r
    replace x_r := x_r.put (ngB S) At nt ct (ngB H) AH nH cH
    clear q_r q_t
    generalize (((v35.setCell ⟨w.heap.size, 0, none⟩ (.bool (ngB S))).setCell ⟨w.heap.size, 1, none⟩ (.slice At nt ct)).setCell ⟨w.heap.size, 2, none⟩ (.bool (ngB H))).setCell ⟨w.heap.size, 3, none⟩ (.slice AH nH cH) = v36 at *
    have q_r := x_r.al
    have q_t := x_t.al
    go_wp2
    refine bodyPost_ret (v := .agg #[.bool (ngB S), .slice At nt ct, .bool (ngB H), .slice AH nH cH]) (by simp [results, Tryz.results228, go_sem, q_r]) rfl ?_
    exact ⟨_, _, _, _, _, _, by rw [HS2.out, HH2.out], by rw [HS2.out]; exact z_t.wide (by omega), by rw [HH2.out]; exact z_H, hb⟩
  ·obtain ⟨S1, hS1⟩ : ∃ e, sumI f (k + 1) = e := ⟨_, rfl⟩
   have HS1 : Hid (S + U = S1) := Lib.hid (by rw [← hS, ← hU]; exact hS1)
   obtain ⟨T1, hT1⟩ : ∃ e, sumI g (k + 1) = e := ⟨_, rfl⟩
   have HT1 : Hid (T + R = T1) := Lib.hid (by rw [← hT, ← hR]; exact hT1)
   have B1 : Hid (Si S1 20) := Lib.hid (by rw [← hS1]; exact HF.out _ (by omega)); have B2 : Hid (Si T1 20) := Lib.hid (by rw [← hT1]; exact HH.out _ (by omega))
   have ES := Lib.hid hS1; have ET := Lib.hid hT1; have HU := Lib.hid hU; have HR := Lib.hid hR
   clear hS hT hU hR hS1 hT1
   have q_r := x_r.al
   have q_t := x_t.al
   go_upto_region 4 with fail
   go_region_law (first | (go_simp; go_at_call 236; (with_reducible refine (Kplus_any z_t.zr z_s.zr z5 z6 (by omega)).mono ?_); rintro e v32 ⟨A8, n8, c8, A9, n9, c9, rfl, z8, z9, hb1⟩; obtain ⟨x_r, x_t, z_t, z_s, z5, z6, hg2⟩ := mv7 hb1 x_r x_t z_t z_s z5 z6 hg2; replace hb := hb.thenB hb1; clear hb1; replace q_r := x_r.al; replace q_t := x_t.al; rw [HS1.out] at z8 ⊢; rw [HT1.out] at z9 ⊢; replace z8 := z8.slim B1.out; replace z9 := z9.slim B2.out) | (go_simp; (with_reducible refine (G.step _ k (by omega) hg.drw).mono ?_); rintro e v31 ⟨bA, AA, nA, cA, bC, AC, nC, cC, rfl, z5, z6, hg2, hb1⟩; replace hb1 := frdrew hb1; replace x_r := x_r.via hb1 (fun hq => by have := G.lt _ hq; omega); replace x_t := x_t.via hb1 (fun hq => by have := G.lt _ hq; omega); replace z_t := z_t.via hb1; replace z_s := z_s.via hb1; replace hb := hb.trans hb1; clear hb1; replace q_r := x_r.al; replace q_t := x_t.al; rw [HU.out] at z5; rw [HR.out] at z6))
   all_goals
    go_wp2_with fail
    replace x_r := x_r.asideK (b' := (ngB S1)) (A' := A8) (n' := n8) (c' := c8) (p' := (ngB T1)) (B' := A9) (m' := n9) (d' := c9) (g := gt) (by omega)
    replace z_t := z_t.putK (b' := (ngB S1)) (A' := A8) (n' := n8) (c' := c8) (p' := (ngB T1)) (B' := A9) (m' := n9) (d' := c9) x_t
    replace z_s := z_s.putK (b' := (ngB S1)) (A' := A8) (n' := n8) (c' := c8) (p' := (ngB T1)) (B' := A9) (m' := n9) (d' := c9) x_t
    replace z5 := z5.putK (b' := (ngB S1)) (A' := A8) (n' := n8) (c' := c8) (p' := (ngB T1)) (B' := A9) (m' := n9) (d' := c9) x_t
    replace z6 := z6.putK (b' := (ngB S1)) (A' := A8) (n' := n8) (c' := c8) (p' := (ngB T1)) (B' := A9) (m' := n9) (d' := c9) x_t
    replace hg2 := hg2.putK (b' := (ngB S1)) (A' := A8) (n' := n8) (c' := c8) (p' := (ngB T1)) (B' := A9) (m' := n9) (d' := c9) (by omega) x_t
    replace z8 := z8.putK (b' := (ngB S1)) (A' := A8) (n' := n8) (c' := c8) (p' := (ngB T1)) (B' := A9) (m' := n9) (d' := c9) x_t
    replace z9 := z9.putK (b' := (ngB S1)) (A' := A8) (n' := n8) (c' := c8) (p' := (ngB T1)) (B' := A9) (m' := n9) (d' := c9) x_t
    replace hb := hb.putK (b' := (ngB S1)) (A' := A8) (n' := n8) (c' := c8) (p' := (ngB T1)) (B' := A9) (m' := n9) (d' := c9) (Or.inr (by omega)) x_t
    replace x_t := x_t.put (ngB S1) A8 n8 c8 (ngB T1) A9 n9 c9
    clear q_r q_t
    generalize (((v32.setCell ⟨gt, 0, none⟩ (.bool (ngB S1))).setCell ⟨gt, 1, none⟩ (.slice A8 n8 c8)).setCell ⟨gt, 2, none⟩ (.bool (ngB T1))).setCell ⟨gt, 3, none⟩ (.slice A9 n9 c9) = v33 at *
    have q_r := x_r.al
    have q_t := x_t.al
    go_roundw
    case rel => exact ⟨k + 1, by omega, by go_num, hb, x_r, ⟨_, _, _, _, _, _, by rw [ES.out, ET.out]; exact x_t, by rw [ES.out]; exact z8, by rw [ET.out]; exact z9⟩, hg2⟩
    case measure => simp [intOf]; omega
end Go.Proofs.YtdonaominffpnaaGreatDoor
