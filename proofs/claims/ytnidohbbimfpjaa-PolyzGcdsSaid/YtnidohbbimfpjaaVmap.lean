/-
  polyz: Norm, Times, shrink.
-/
import Derived.Test.YtnidohbbimfpjaaVeach
namespace Go.Proofs.Ytnidohbbimfpjaa
open Go.RowKit
open MP.Se (nf)
set_option linter.unusedVariables false
set_option maxRecDepth 100000

theorem Ch.plain {fid J K : Nat} {f : Int → Int} {l : List Int} {caps : Array Value} {B : Nat} {I : World → Prop} (hent : ∀ (args : Array Value) (w : World), (callFunc fid args).run Try.prog w = .ok (.enter fid args) w)
    (hkeep : ∀ w w', I w → Fz (fun b => B ≤ b) w w' → I w')
    (h : ∀ (w : World) (X : Int), X ∈ l → ∀ (b : Bool) (A : Option Addr) (n c : Nat), I w → Zr w b A n c X J → Calls Try.prog fid (#[.agg #[.bool b, .slice A n c]] ++ caps) w (OutZ w (f X) K))
    (hI : ∀ w w', I w → Below w.heap.size w w' → I w') : Ch (fun _ => False) B fid caps (fun w _ => I w) (fun _ => f) l J K := by
  refine ⟨hent, fun _ h => h.elim, fun w w' _ h1 h2 => hkeep _ _ h1 h2, fun w k hk b A n c hi z => ?_⟩
  refine (h w _ (List.getElem_mem hk) b A n c hi z).mono ?_
  rintro e w' ⟨A', n', c', rfl, z', hb⟩
  exact ⟨A', n', c', rfl, z', hI _ _ hi hb, Fz.of hb⟩
theorem mapIdx_const (f : Int → Int) (l : List Int) : l.mapIdx (fun _ => f) = l.map f := by
  apply List.ext_getElem <;> simp
theorem Peach_plain {B fid J K : Nat} {caps : Array Value} {I : World → Prop} {f : Int → Int} {A : Option Addr} {n c : Nat} {l : List Int} {w : World}
    (C : Ch (fun _ => False) B fid caps (fun w _ => I w) (fun _ => f) (nf l) J K) (h : Pd w w.heap.size A n c l J) (hB : B ≤ w.heap.size) (hI : I w) (hJ : J ≤ 1000000) (hK : K ≤ 1000000) :
    Calls Try.prog 63 #[.slice A n c, .func (.func fid) #[] caps] w (OutP w (nf ((nf l).map f)) K) := by
  refine (Peach_any C h (Nat.le_refl _) (fun _ h => h.elim) hB hI hJ hK).mono ?_
  rintro e w' ⟨A', m, c', rfl, hp, _, hf⟩
  rw [mapIdx_const] at hp
  exact ⟨A', m, c', rfl, hp, hf.below fun _ _ h => h⟩
theorem ent_ZNorm : ∀ (args : Array Value) (w : World), (callFunc 42 args).run Try.prog w = .ok (.enter 42 args) w := enters_of Try.func42 (by kernel_rfl) rfl
theorem ent_ZNeg : ∀ (args : Array Value) (w : World), (callFunc 66 args).run Try.prog w = .ok (.enter 66 args) w := enters_of Try.func66 (by kernel_rfl) rfl
theorem PNorm_any {A : Option Addr} {n c J : Nat} {l : List Int} {w : World} (h : Pd w w.heap.size A n c l J) (hJ : J ≤ 1000000) :
    Calls Try.prog 58 #[.slice A n c] w (OutP w (nf l) J) := by
  have C : Ch (fun _ => False) 0 42 #[] (fun _ _ => True) (fun _ X => X) (nf l) J J := Ch.plain ent_ZNorm (fun _ _ _ _ => trivial) (fun w X _ b A n c _ z => ZNorm_any z J (Nat.le_refl _)) (fun _ _ _ _ => trivial)
  go_enter Try.func58, Try.ntmps58
  go_wp2_with fail
  with_reducible refine (Peach_plain C h (Nat.zero_le _) trivial hJ hJ).mono ?_
  rintro e w' ⟨A', m, c', rfl, hp, hb⟩
  rw [List.map_id', MP.Se.nf_nf] at hp
  go_wp2
  go_ret
  exact ⟨A', m, c', rfl, hp, hb⟩
theorem ent_Times : ∀ (args : Array Value) (w : World), (callFunc 64 args).run Try.prog w = .ok (.enter 64 args) w := enters_of Try.func64 (by kernel_rfl) rfl
theorem Times1_any {A A2 : Option Addr} {g n c n2 c2 J J2 K : Nat} {b b2 : Bool} {X Y : Int} {w : World} (x : Bx w g b A n c) (z : Zr w b A n c X J2) (z2 : Zr w b2 A2 n2 c2 Y J) (hK : J + J2 ≤ K) (hK2 : K ≤ 1000000) :
    Calls Try.prog 64 #[.agg #[.bool b2, .slice A2 n2 c2], .pointer (some ⟨g, 0, none⟩)] w (OutZ w (Y * X) K) := by
  go_enter Try.func64, Try.ntmps64
  go_upto_region 1 with fail
  refine al2 fun v1 hb x_x x_r => ?_
  replace x_x := Bx.of x_x; replace x_r := Bx.of x_r
  replace x := x.keep hb; replace z := z.keep hb; replace z2 := z2.keep hb
  have q := x.al
  have q_x := x_x.al
  have q_r := x_r.al
  go_wp2_with fail
  with_reducible refine (ZMul_any z2 z K (by omega) hK2).mono ?_
  rintro e v2 ⟨A3, n3, c3, rfl, z3, hb1⟩
  replace x_r := x_r.keep hb1
  replace hb := bthen hb hb1
  clear q q_x q_r x x_x z z2 hb1
  have q_r := x_r.al
  go_wp2
  refine x_r.st fun v3 hs x_r => ?_
  replace z3 := Ms.ms (g := w.heap.size + 1) hs trivial z3
  replace hb := ms1 hs (by omega) hb
  have q_r := x_r.al
  refine bodyPost_ret (v := .agg #[.bool (ngB (Y * X)), .slice A3 n3 c3]) (by simp [results, Try.results64, go_sem, q_r]) rfl ?_
  exact ⟨_, _, _, rfl, z3, hb⟩
theorem PTimes_any {A A2 : Option Addr} {n c n2 c2 J J2 K : Nat} {b : Bool} {X : Int} {l : List Int} {w : World} (h : Pd w w.heap.size A n c l J) (z : Zr w b A2 n2 c2 X J2) (hK : J + J2 ≤ K) (hK2 : K ≤ 1000000) :
    Calls Try.prog 24 #[.slice A n c, .agg #[.bool b, .slice A2 n2 c2]] w (OutP w (nf ((nf l).map (· * X))) K) := by
  go_enter Try.func24, Try.ntmps24
  go_wp2_with fail
  refine al1c fun v1 hb x_c => ?_
  replace x_c := Bx.of x_c
  replace h := h.go hb; replace z := z.keep hb
  have C : Ch (fun _ => False) (w.heap.size + 1) 64 #[.pointer (some ⟨w.heap.size, 0, none⟩)] (fun w' _ => Bx w' w.heap.size b A2 n2 c2 ∧ Zr w' b A2 n2 c2 X J2) (fun _ Y => Y * X) (nf l) J K :=
    Ch.plain ent_Times (fun w1 w2 h f => ⟨h.1.via f (by omega), h.2.via f⟩) (fun w1 Y _ b9 A9 n9 c9 h z9 => Times1_any h.1 h.2 z9 hK hK2) (fun w1 w2 h hb => ⟨h.1.keep hb, h.2.keep hb⟩)
  have hlt := x_c.lt
  with_reducible refine (Peach_plain C h (by omega) ⟨x_c, z⟩ (by omega) hK2).mono ?_
  rintro e w' ⟨A', m, c', rfl, hp, hb1⟩
  replace hp := hp.more hb.size
  replace hb := bthen hb hb1
  go_wp2
  go_ret
  exact ⟨A', m, c', rfl, hp, hb⟩
end Go.Proofs.Ytnidohbbimfpjaa
