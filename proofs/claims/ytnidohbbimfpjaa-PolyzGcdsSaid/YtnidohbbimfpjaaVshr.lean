/-
  polyz: shrink, power.
-/
import Derived.Test.YtnidohbbimfpjaaVmap
namespace Go.Proofs.Ytnidohbbimfpjaa
open Go.RowKit
open MP.Se (nf)
set_option linter.unusedVariables false
set_option maxRecDepth 100000

theorem ent_shrink : ∀ (args : Array Value) (w : World), (callFunc 99 args).run Try.prog w = .ok (.enter 99 args) w := enters_of Try.func99 (by kernel_rfl) rfl
theorem Shrink1_any {A A2 : Option Addr} {g n c n2 c2 J J2 K : Nat} {b b2 : Bool} {X Y : Int} {w : World} (x : Bx w g b A n c) (z : Zr w b A n c X J2) (z2 : Zr w b2 A2 n2 c2 Y J) (hX : X ≠ 0) (hK : J + 1 ≤ K) (hK3 : J2 ≤ K) (hK2 : K ≤ 1000000) :
    Calls Try.prog 99 #[.agg #[.bool b2, .slice A2 n2 c2], .pointer (some ⟨g, 0, none⟩)] w (OutZ w (Y / X) K) := by
  go_enter Try.func99, Try.ntmps99
  go_upto_region 1 with fail
  refine al2 fun v1 hb x_x x_r => ?_
  replace x_x := Bx.of x_x; replace x_r := Bx.of x_r
  replace x := x.keep hb; replace z := z.keep hb; replace z2 := z2.keep hb
  have q := x.al
  have q_x := x_x.al
  have q_r := x_r.al
  go_wp2_with fail
  with_reducible refine (ZDivMod_any z2 z hX K hK hK3 hK2).mono ?_
  rintro e v2 ⟨A3, n3, c3, A4, n4, c4, rfl, z3, z4, hb1⟩
  replace x_r := x_r.keep hb1
  replace hb := bthen hb hb1
  clear q q_x q_r x x_x z z2 hb1
  have q_r := x_r.al
  go_upto_region 2 with fail
  refine al2 fun v3 hb1 x_q x_o => ?_
  replace x_q := Bx.of x_q
  have hlt := x_r.lt
  replace x_r := x_r.keep hb1; replace z3 := z3.keep hb1
  have hsz := hb.size
  replace hb := bthen hb hb1
  clear hb1 z4 x_o
  replace q_r := x_r.al
  have q_q := x_q.al
  go_wp2
  refine x_r.st fun v4 hs x_r => ?_
  replace z3 := Ms.ms (g := w.heap.size + 1) hs trivial z3
  replace hb := ms1 hs (by omega) hb
  replace q_r := x_r.al
  refine bodyPost_ret (v := .agg #[.bool (ngB (Y / X)), .slice A3 n3 c3]) (by simp [results, Try.results99, go_sem, q_r]) rfl ?_
  exact ⟨_, _, _, rfl, z3, hb⟩
theorem PShrink_any {A A2 : Option Addr} {n c n2 c2 J J2 K : Nat} {b : Bool} {X : Int} {l : List Int} {w : World} (h : Pd w w.heap.size A n c l J) (z : Zr w b A2 n2 c2 X J2) (hX : X ≠ 0 ∨ nf l = []) (hK : J + 1 ≤ K) (hK3 : J2 ≤ K) (hK2 : K ≤ 1000000) :
    Calls Try.prog 67 #[.slice A n c, .agg #[.bool b, .slice A2 n2 c2]] w (OutP w (nf ((nf l).map (· / X))) K) := by
  go_enter Try.func67, Try.ntmps67
  go_wp2_with fail
  refine al1c fun v1 hb x_c => ?_
  replace x_c := Bx.of x_c
  replace h := h.go hb; replace z := z.keep hb
  have C : Ch (fun _ => False) (w.heap.size + 1) 99 #[.pointer (some ⟨w.heap.size, 0, none⟩)] (fun w' _ => Bx w' w.heap.size b A2 n2 c2 ∧ Zr w' b A2 n2 c2 X J2) (fun _ Y => Y / X) (nf l) J K :=
    Ch.plain ent_shrink (fun w1 w2 h f => ⟨h.1.via f (by omega), h.2.via f⟩) (fun w1 Y hY b9 A9 n9 c9 h z9 => Shrink1_any h.1 h.2 z9 (hX.elim id fun e => by rw [e] at hY; cases hY) hK hK3 hK2) (fun w1 w2 h hb => ⟨h.1.keep hb, h.2.keep hb⟩)
  have hlt := x_c.lt
  with_reducible refine (Peach_plain C h (by omega) ⟨x_c, z⟩ (by omega) hK2).mono ?_
  rintro e w' ⟨A', m, c', rfl, hp, hb1⟩
  replace hp := hp.more hb.size
  replace hb := bthen hb hb1
  go_wp2
  go_ret
  exact ⟨A', m, c', rfl, hp, hb⟩
/-- What the loop of power keeps. -/
def PwR (w : World) (b : Bool) (A : Option Addr) (n c : Nat) (X : Int) (J g k : Nat) (wr : World) : Prop :=
  Bx wr w.heap.size b A n c ∧ Bx wr (w.heap.size + 1) false none 0 0 ∧ Zr wr b A n c X J ∧ (∃ A' n' c', Bx wr g (ngB (X ^ k)) A' n' c' ∧ Zn wr A' n' c' (X ^ k) (k * J + 1)) ∧ Below w.heap.size w wr
theorem PPower_any {A : Option Addr} {n c m J : Nat} {b : Bool} {X : Int} {w : World} (z : Zr w b A n c X J) (hm : m ≤ 1000) (hJ : m * J ≤ 900000) :
    Calls Try.prog 94 #[.agg #[.bool b, .slice A n c], .int .i64 (m : Int)] w (OutZ w (X ^ m) (m * J + 1)) := by
  go_enter Try.func94, Try.ntmps94
  go_upto_region 1 with fail
  refine al2 fun v1 hb x_a x_r => ?_
  replace x_a := Bx.of x_a; replace x_r := Bx.of x_r
  replace z := z.keep hb
  go_wp2_with fail
  with_reducible refine (ZOf_any 1 (by omega) (by omega)).mono ?_
  rintro e v2 ⟨A3, n3, c3, rfl, z3, hb1⟩
  replace x_a := x_a.keep hb1; replace x_r := x_r.keep hb1; replace z := z.keep hb1
  replace hb := bthen hb hb1
  clear hb1
  go_upto_region 2 with fail
  refine al1 fun v3 hb1 x_o => ?_
  replace x_o := Bx.of x_o
  have l1 := x_r.lt
  replace x_a := x_a.keep hb1; replace x_r := x_r.keep hb1; replace z := z.keep hb1; replace z3 := z3.keep hb1
  have hsz := hb.size
  replace hb := bthen hb hb1
  clear hb1
  obtain ⟨g, hg⟩ : ∃ g, v2.heap.size = g := ⟨_, rfl⟩
  rw [hg] at x_o l1 hsz
  simp only [hg]
  clear hg
  have hr0 : PwR w b A n c X J g 0 v3 := ⟨x_a, x_r, z, ⟨A3, n3, c3, by simpa using x_o, by simpa using z3⟩, hb⟩
  have HX : ∀ k : Nat, X ^ k * X = X ^ (k + 1) := fun k => (Int.pow_succ X k).symm
  have HXX := Lib.hid HX
  clear HX z z3 hb x_o
  clear x_a x_r
  go_wp2_with fail
  go_loopw [8] (fun kv wr => ∃ k : Nat, k ≤ m ∧ kv = .int .i64 (k : Int) ∧ PwR w b A n c X J g k wr) (fun kv _ => m - (intOf kv).toNat)
  case atStart => exact ⟨0, by omega, rfl, hr0⟩
  case round =>
    clear hr0
    obtain ⟨k, hk, rfl, x_a, x_r, z, ⟨A4, n4, c4, x_o, z4⟩, hb⟩ := hrel
    rcases (show k = m ∨ k < m by omega) with hkm | hkm
    · subst hkm
      have q_r := x_r.al
      have q_o := x_o.al
      go_wp2
      refine x_r.st fun v4 hs x_r => ?_
      replace z4 := Ms.ms (g := w.heap.size + 1) hs trivial z4
      replace hb := ms1 hs (by omega) hb
      replace q_r := x_r.al
      refine bodyPost_ret (v := .agg #[.bool (ngB (X ^ k)), .slice A4 n4 c4]) (by simp [results, Try.results94, go_sem, q_r]) rfl ?_
      exact ⟨_, _, _, rfl, z4, hb⟩
    · have q_a := x_a.al
      have q_o := x_o.al
      have hkJ : k * J + J = (k + 1) * J := by rw [Nat.add_mul]; omega
      have hkm2 : (k + 1) * J ≤ m * J := Nat.mul_le_mul_right J hkm
      have HKJ := Lib.hid hkJ; have HKM := Lib.hid hkm2; have HJ := Lib.hid hJ
      clear hkJ hkm2 hJ
      go_wp2_with fail
      with_reducible refine (ZMul_any z4.zr z ((k + 1) * J + 1) (by have := HKJ.out; omega) (by have := HKM.out; have := HJ.out; omega)).mono ?_
      rintro e v4 ⟨A5, n5, c5, rfl, z5, hb1⟩
      rw [HXX.out] at z5
      rw [HXX.out]
      replace x_a := x_a.keep hb1; replace x_r := x_r.keep hb1; replace x_o := x_o.keep hb1; replace z := z.keep hb1
      replace hb := bthen hb hb1
      clear z4 q_a q_o hb1
      have q_o := x_o.al
      go_wp2
      refine ⟨⟨k + 1, by omega, by go_num, ?_⟩, by simp [intOf]; omega⟩
      refine x_o.st (F := PwR w b A n c X J g (k + 1)) fun v5 hs x_o => ?_
      replace x_a := Ms.ms hs (by omega) x_a; replace x_r := Ms.ms hs (by omega) x_r; replace z := Ms.ms (g := g) hs trivial z; replace z5 := Ms.ms (g := g) hs trivial z5
      replace hb := ms1 hs (by omega) hb
      exact ⟨x_a, x_r, z, ⟨A5, n5, c5, x_o, z5⟩, hb⟩
end Go.Proofs.Ytnidohbbimfpjaa
