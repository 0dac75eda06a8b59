/-
  polyz: Stretch.
-/
import Derived.Test.YtnidohbbimfpjaaVrai
namespace Go.Proofs.Ytnidohbbimfpjaa
open Go.RowKit
open MP.Se (nf co)
set_option linter.unusedVariables false
set_option maxRecDepth 100000

theorem ent_Stretch : ∀ (args : Array Value) (w : World), (callFunc 111 args).run Try.prog w = .ok (.enter 111 args) w := enters_of Try.func111 (by kernel_rfl) rfl
/-- The function keeps the next power in block gp. -/
def StI (gp gc : Nat) (b : Bool) (A2 : Option Addr) (n2 c2 : Nat) (X : Int) (J2 : Nat) (w : World) (k : Nat) : Prop :=
  gp ≠ gc ∧ Bx w gc b A2 n2 c2 ∧ Zr w b A2 n2 c2 X J2 ∧ ∃ A n c, Bx w gp (ngB (X ^ k)) A n c ∧ Zn w A n c (X ^ k) (k * J2 + 1)
theorem Stretch1_any {gp gc k n c n2 c2 J J2 K : Nat} {A A2 : Option Addr} {b b2 : Bool} {X Y : Int} {w : World} (I : StI gp gc b A2 n2 c2 X J2 w k) (z : Zr w b2 A n c Y J) (hK : J + (k + 1) * J2 + 1 ≤ K) (hK2 : K ≤ 900000) :
    Calls Try.prog 111 #[.agg #[.bool b2, .slice A n c], .pointer (some ⟨gp, 0, none⟩), .pointer (some ⟨gc, 0, none⟩)] w fun e w' => ∃ A' n' c', e = .returned (.agg #[.bool (ngB (Y * X ^ k)), .slice A' n' c']) ∧ Zn w' A' n' c' (Y * X ^ k) K ∧ StI gp gc b A2 n2 c2 X J2 w' (k + 1) ∧ Fz (fun b => b = gp) w w' := by
  obtain ⟨hne, x_c, z2, A3, n3, c3, x_p, z3⟩ := I
  have hpw : Hid (X ^ k * X = X ^ (k + 1)) := Lib.hid (Int.pow_succ X k).symm
  obtain ⟨V, hV⟩ : ∃ V, X ^ k = V := ⟨_, rfl⟩
  rw [hV] at x_p z3 hpw ⊢
  have HV := Lib.hid hV; clear hV
  have hkJ : k * J2 + J2 = (k + 1) * J2 := by rw [Nat.add_mul]; omega
  obtain ⟨K0, hK0⟩ : ∃ K0, k * J2 + 1 = K0 := ⟨_, rfl⟩
  obtain ⟨K1, hK1⟩ : ∃ K1, (k + 1) * J2 + 1 = K1 := ⟨_, rfl⟩
  have h01 : K0 + J2 = K1 := by omega
  rw [hK0] at z3
  replace hK : J + K1 ≤ K := by omega
  have HK1 := Lib.hid hK1; clear hK0 hK1 hkJ
  have lp := x_p.lt; have lc := x_c.lt
  go_enter Try.func111, Try.ntmps111
  go_upto_region 1 with fail
  refine al2 fun v1 hb x_x x_r => ?_
  replace x_x := Bx.of x_x; replace x_r := Bx.of x_r
  obtain ⟨x_c, x_p, z, z2, z3⟩ := mv5 hb x_c x_p z z2 z3
  replace hb : Fz (fun b => b = gp) w v1 := Fz.of hb
  have q_x := x_x.al
  have q_r := x_r.al
  have q_c := x_c.al
  have q_p := x_p.al
  go_wp2_with fail
  with_reducible refine (ZMul_any z z3.zr K (by omega) (by omega)).mono ?_
  rintro e v2 ⟨A6, n6, c6, rfl, z6, hb1⟩
  obtain ⟨x_x, x_r, x_c, x_p, z, z2, z3, hb⟩ := mv8 hb1 x_x x_r x_c x_p z z2 z3 hb
  clear hb1
  replace q_x := x_x.al
  replace q_r := x_r.al
  replace q_c := x_c.al
  replace q_p := x_p.al
  go_wp2_with fail
  clear q_x q_r q_c q_p
  refine x_x.stc fun v3 hs hx => ?_
  obtain ⟨x_r, x_c, x_p, z, z2, z3, z6, hb⟩ := ms8 hs ⟨by omega, by omega, by omega, trivial, trivial, trivial, trivial, by first | exact .inl (by omega) | exact .inr rfl⟩ x_r x_c x_p z z2 z3 z6 hb
  replace x_x := hx; clear hx hs
  have q_x := x_x.al
  have q_r := x_r.al
  have q_c := x_c.al
  have q_p := x_p.al
  with_reducible refine (ZMul_any z3.zr z2 K1 (by omega) (by omega)).mono ?_
  rintro e v4 ⟨A7, n7, c7, rfl, z7, hb1⟩
  obtain ⟨x_x, x_r, x_c, x_p, z, z2, z3, z6, hb⟩ := mv9 hb1 x_x x_r x_c x_p z z2 z3 z6 hb
  clear hb1
  replace q_x := x_x.al
  replace q_r := x_r.al
  replace q_c := x_c.al
  replace q_p := x_p.al
  go_upto_region 3 with fail
  clear q_x q_r q_c q_p
  refine x_p.st fun v5 hs hx => ?_
  obtain ⟨x_x, x_r, x_c, z, z2, z3, z6, z7, hb⟩ := ms9 hs ⟨by omega, by omega, by omega, trivial, trivial, trivial, trivial, trivial, by first | exact .inl (by omega) | exact .inr rfl⟩ x_x x_r x_c z z2 z3 z6 z7 hb
  replace x_p := hx; clear hx hs
  have q_x := x_x.al
  have q_r := x_r.al
  have q_c := x_c.al
  have q_p := x_p.al
  go_wp2
  clear q_x q_r q_c q_p
  refine x_r.st fun v6 hs hx => ?_
  obtain ⟨x_x, x_c, x_p, z, z2, z3, z6, z7, hb⟩ := ms9 hs ⟨by omega, by omega, by omega, trivial, trivial, trivial, trivial, trivial, by first | exact .inl (by omega) | exact .inr rfl⟩ x_x x_c x_p z z2 z3 z6 z7 hb
  replace x_r := hx; clear hx hs
  have q_x := x_x.al
  have q_r := x_r.al
  have q_c := x_c.al
  have q_p := x_p.al
  rw [← HK1.out, hpw.out] at z7
  rw [hpw.out] at x_p
  skip
  refine bodyPost_ret (v := .agg #[.bool (ngB (Y * V)), .slice A6 n6 c6]) (by simp [results, Try.results111, go_sem, q_r]) rfl ?_
  exact ⟨_, _, _, rfl, z6, ⟨hne, x_c, z2, _, _, _, x_p, z7⟩, hb⟩
theorem PStretch_any {A A2 : Option Addr} {n c n2 c2 J J2 K : Nat} {b : Bool} {X : Int} {l : List Int} {w : World} (h : Pd w w.heap.size A n c l J) (z : Zr w b A2 n2 c2 X J2) (hK : J + n * J2 + 1 ≤ K) (hK2 : K ≤ 900000) :
    Calls Try.prog 92 #[.slice A n c, .agg #[.bool b, .slice A2 n2 c2]] w (OutS w (MP.Se.pu (co l) (MP.Se.xc X)) K) := by
  have hl := h.len
  have hle := MP.Se.nf_len l
  have hKN : ∀ k, k < (nf l).length → J + (k + 1) * J2 + 1 ≤ K := fun k hk => by
    have : (k + 1) * J2 ≤ n * J2 := Nat.mul_le_mul_right _ (by omega)
    omega
  have HKN := Lib.hid hKN
  have hJ1 : J ≤ 900000 := by omega
  clear hKN hK hle
  replace h := h.pe
  go_enter Try.func92, Try.ntmps92
  go_upto_region 1 with fail
  refine al1 fun v1 hb x_c => ?_
  replace x_c := Bx.of x_c
  obtain ⟨h, z⟩ := mv2 hb h z
  go_wp2_with fail
  with_reducible refine (ZOf_any 1 (by omega) (by omega)).mono ?_
  rintro e v2 ⟨A3, n3, c3, rfl, z3, hb1⟩
  obtain ⟨x_c, h, z, hb⟩ := mv4 hb1 x_c h z hb
  clear hb1
  go_upto_region 2 with fail
  have lc := x_c.lt
  refine al1 fun v3 hb1 x_p => ?_
  replace x_p := Bx.of x_p
  have hgp := hb.size
  obtain ⟨x_c, h, z, z3, hb⟩ := mv5 hb1 x_c h z z3 hb
  clear hb1
  obtain ⟨gp, hg⟩ : ∃ g, v2.heap.size = g := ⟨_, rfl⟩
  rw [hg] at x_p hgp lc
  simp only [hg]
  clear hg
  have lp := x_p.lt
  have C : Ch (fun b => b = gp) v3.heap.size 111 #[.pointer (some ⟨gp, 0, none⟩), .pointer (some ⟨w.heap.size, 0, none⟩)] (StI gp w.heap.size b A2 n2 c2 X J2) (fun k x => x * X ^ k) (nf l) J K := by
    refine ⟨ent_Stretch, fun b hb => by omega, fun w1 w2 k I f => ?_, fun w1 k hk b9 A9 n9 c9 I z9 => Stretch1_any I z9 (HKN.out k hk) hK2⟩
    obtain ⟨hne, i1, i2, A9, n9, c9, i3, i4⟩ := I
    exact ⟨hne, i1.via f (by omega), i2.via f, A9, n9, c9, i3.via f (by omega), i4.via f⟩
  have hI : StI gp w.heap.size b A2 n2 c2 X J2 v3 0 := ⟨by omega, x_c, z, A3, n3, c3, by rw [Int.pow_zero]; exact x_p, by rw [Int.pow_zero, Nat.zero_mul]; exact z3⟩
  have HC := Lib.hid C; have HI := Lib.hid hI
  have hp0 := h.2; have hB0 := h.1
  clear C hI z3 x_p x_c z h
  go_wp2_with fail
  with_reducible refine (Peach_any HC.out hp0 hB0 (fun b hb => by omega) (Nat.le_refl _) HI.out (by omega) (by omega)).mono ?_
  rintro e w' ⟨A', m, c', rfl, hp, _, hf⟩
  replace hp := hp.more hb.size
  replace hb : Below w.heap.size w w' := Fz.below (P := fun _ => False) ((Fz.of hb).more hf (fun b hb e => by omega)) (fun b hb h => h)
  clear hf
  go_wp2
  go_ret
  exact ⟨_, MP.Se.nm_nf _, MP.Se.co_stretch l X, A', m, c', rfl, hp, hb⟩
end Go.Proofs.Ytnidohbbimfpjaa
