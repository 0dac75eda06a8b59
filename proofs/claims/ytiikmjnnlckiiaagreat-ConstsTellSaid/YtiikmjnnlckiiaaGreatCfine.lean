/-
 consts: ofPart.
-/
import Derived.Test.YtiikmjnnlckiiaaGreatCrec
import Derived.Test.YtiikmjnnlckiiaaGreatKatan
import Derived.Shelf.Abstract
namespace Go.Proofs.YtiikmjnnlckiiaaGreat
open Go.RowKit
set_option linter.unusedVariables false

set_option maxRecDepth 100000 in
set_option maxHeartbeats 8000000 in
theorem ofPart_any {fid : Nat} (hent : ∀ (args : Array Value) (w : World), (callFunc fid args).run Tryz.prog w = .ok (.enter fid args) w) (lo hi : Int → Int) (W m M : Nat) (K : Int) (hK : K = (m : Int)) (w : World) (hW : 16 ≤ W ∧ W ≤ 1000) (hm : 3 ≤ m ∧ m ≤ 300) (hc : Nat.Coprime m 2)
  (hat : ∀ (w' : World) (b : Bool) (A : Option Addr) (n c : Nat) (X : Int), X = ptN W m ∨ X = ptN W m + 1 → Zr w' b A n c X 19 → Calls Tryz.prog fid #[.agg #[.bool b, .slice A n c], .int .i64 (W : Nat), .int .i64 (M : Nat)] w' (Ou2 w' (lo X) (hi X) 0 25))
  (hsi : Si (lo (ptN W m)) 20 ∧ Si (hi (ptN W m + 1)) 20) :
  Calls Tryz.prog 29 #[.func (.func fid) #[] #[], .int .u64 K, .int .i64 (W : Nat), .int .i64 (M : Nat)] w (OuB w (lo (ptN W m)) (hi (ptN W m + 1)) W 20) := by
 have HK := Lib.hid hK; clear hK
 obtain ⟨D, hD⟩ : ∃ e, ptN W m = e := ⟨_, rfl⟩
 rw [hD] at hsi hat ⊢
 have HD := Lib.hid hD; clear hD
 obtain ⟨P1, hP1⟩ : ∃ e, lo D = e := ⟨_, rfl⟩
 obtain ⟨R1, hR1⟩ : ∃ e, hi D = e := ⟨_, rfl⟩
 obtain ⟨P2, hP2⟩ : ∃ e, lo (D + 1) = e := ⟨_, rfl⟩
 obtain ⟨R2, hR2⟩ : ∃ e, hi (D + 1) = e := ⟨_, rfl⟩
 rw [hP1, hR2] at hsi; rw [hP1, hR2]
 have BS := Lib.hid hsi; clear hsi
 have hat1 := fun w' b A n c => hat w' b A n c D (Or.inl rfl)
 have hat2 := fun w' b A n c => hat w' b A n c (D + 1) (Or.inr rfl)
 rw [hP1, hR1] at hat1; rw [hP2, hR2] at hat2
 have HA1 := Lib.hid hat1; have HA2 := Lib.hid hat2; clear hat hat1 hat2 hP1 hR1 hP2 hR2
 go_enter Tryz.func29, Tryz.ntmps29
 go_wp2_with fail
 have x_r : Lx (w.alloc (.cells #[.bool false, .slice none 0 0, .bool false, .slice none 0 0, .int .i64 0] 27)) (w.heap.size) false none 0 0 false none 0 0 0 := by have := Lx.new w false none 0 0 false none 0 0 0; simpa using this
 have hb : Below w.heap.size w (w.alloc (.cells #[.bool false, .slice none 0 0, .bool false, .slice none 0 0, .int .i64 0] 27)) := (Below.alloc (Below.refl w.heap.size w) (by simp) (.cells #[.bool false, .slice none 0 0, .bool false, .slice none 0 0, .int .i64 0] 27))
 generalize w.alloc (.cells #[.bool false, .slice none 0 0, .bool false, .slice none 0 0, .int .i64 0] 27) = v1 at *
 have q_r := x_r.al
 clear q_r
 go_wp2_with fail
 with_reducible refine (reciprocal_any W m K HK.out _ hW hm hc).mono ?_
 rintro e v2 ⟨A5, n5, c5, A6, n6, c6, rfl, z5, z6, hb1⟩
 replace x_r := x_r.keep hb1
 replace hb := bthen hb hb1
 clear hb1
 rw [HD.out] at z5 z6 ⊢
 go_upto_region 2 with fail
 have hb1 := below_alloc v2 (.cells #[.bool (ngB D), .slice A5 n5 c5, .bool (ngB (D + 1)), .slice A6 n6 c6, .int .i64 (W : Int)] 27)
 have l_r_p := x_r.lt
 have x_p := Lx.new v2 (ngB D) A5 n5 c5 (ngB (D + 1)) A6 n6 c6 (W : Int)
 have e_p : w.heap.size ≤ v2.heap.size := hb.size
 obtain ⟨x_r, z5, z6⟩ := mv3 hb1 x_r z5 z6
 replace hb := bthen hb hb1
 clear hb1
 generalize v2.alloc (.cells #[.bool (ngB D), .slice A5 n5 c5, .bool (ngB (D + 1)), .slice A6 n6 c6, .int .i64 (W : Int)] 27) = v3 at *
 have q_p := x_p.al
 go_wp2_with fail
 with_reducible refine (HA1.out _ _ _ _ _ z5.zr).mono ?_
 rintro e v4 ⟨A20, n20, c20, A21, n21, c21, rfl, z20, z21, hb1⟩
 obtain ⟨x_r, x_p, z5, z6⟩ := mv4 hb1 x_r x_p z5 z6
 replace hb := bthen hb hb1
 clear hb1
 replace q_p := x_p.al
 replace z20 := z20.slim BS.out.1
 have y_p := (((x_p.alloc (.cells #[.bool (ngB P1), .slice A20 n20 c20] 25)).alloc (.cells #[.bool (ngB R1), .slice A21 n21 c21] 25))).al
 go_upto_region 3 with fail
 clear y_p
 have l_r_c := x_r.lt
 have l_p_c := x_p.lt
 have e_c : w.heap.size ≤ v4.heap.size := hb.size
 have hb1 := below_alloc2 v4 (.cells #[.bool (ngB P1), .slice A20 n20 c20] 25) (.cells #[.bool (ngB R1), .slice A21 n21 c21] 25)
 have x_c := (Bx.new v4 (ngB P1) A20 n20 c20).alloc (.cells #[.bool (ngB R1), .slice A21 n21 c21] 25)
 have x_e : Bx ((v4.alloc (.cells #[.bool (ngB P1), .slice A20 n20 c20] 25)).alloc (.cells #[.bool (ngB R1), .slice A21 n21 c21] 25)) (v4.heap.size + 1) (ngB R1) A21 n21 c21 := by have := Bx.new (v4.alloc (.cells #[.bool (ngB P1), .slice A20 n20 c20] 25)) (ngB R1) A21 n21 c21; simpa using this
 clear q_p
 obtain ⟨x_r, x_p, z5, z6, z20, z21⟩ := mv6 hb1 x_r x_p z5 z6 z20 z21
 replace hb := bthen hb hb1
 clear hb1
 generalize (v4.alloc (.cells #[.bool (ngB P1), .slice A20 n20 c20] 25)).alloc (.cells #[.bool (ngB R1), .slice A21 n21 c21] 25) = v5 at *
 have q_p := x_p.al
 have q_c := x_c.al
 have q_e := x_e.al
 go_wp2_with fail
 with_reducible refine (HA2.out _ _ _ _ _ z6.zr).mono ?_
 rintro e v6 ⟨A30, n30, c30, A31, n31, c31, rfl, z30, z31, hb1⟩
 obtain ⟨x_r, x_p, x_c, x_e, z5, z6, z20, z21⟩ := mv8 hb1 x_r x_p x_c x_e z5 z6 z20 z21
 replace hb := bthen hb hb1
 clear hb1
 replace q_p := x_p.al
 replace q_c := x_c.al
 replace q_e := x_e.al
 replace z31 := z31.slim BS.out.2
 have y_p := (((x_p.alloc (.cells #[.bool (ngB P2), .slice A30 n30 c30] 25)).alloc (.cells #[.bool (ngB R2), .slice A31 n31 c31] 25))).al
 have y_c := (((x_c.alloc (.cells #[.bool (ngB P2), .slice A30 n30 c30] 25)).alloc (.cells #[.bool (ngB R2), .slice A31 n31 c31] 25))).al
 have y_e := (((x_e.alloc (.cells #[.bool (ngB P2), .slice A30 n30 c30] 25)).alloc (.cells #[.bool (ngB R2), .slice A31 n31 c31] 25))).al
 go_upto_region 4 with fail
 clear y_p y_c y_e
 have l_r_f := x_r.lt
 have l_p_f := x_p.lt
 have l_c_f := x_c.lt
 have l_e_f := x_e.lt
 have e_f : w.heap.size ≤ v6.heap.size := hb.size
 have hb1 := below_alloc2 v6 (.cells #[.bool (ngB P2), .slice A30 n30 c30] 25) (.cells #[.bool (ngB R2), .slice A31 n31 c31] 25)
 have x_f := (Bx.new v6 (ngB P2) A30 n30 c30).alloc (.cells #[.bool (ngB R2), .slice A31 n31 c31] 25)
 have x_g : Bx ((v6.alloc (.cells #[.bool (ngB P2), .slice A30 n30 c30] 25)).alloc (.cells #[.bool (ngB R2), .slice A31 n31 c31] 25)) (v6.heap.size + 1) (ngB R2) A31 n31 c31 := by have := Bx.new (v6.alloc (.cells #[.bool (ngB P2), .slice A30 n30 c30] 25)) (ngB R2) A31 n31 c31; simpa using this
 clear q_p q_c q_e
 obtain ⟨x_r, x_p, x_c, x_e, z5, z6, z20, z21, z30⟩ := mv9 hb1 x_r x_p x_c x_e z5 z6 z20 z21 z30
 replace z31 := z31.keep hb1
 replace hb := bthen hb hb1
 clear hb1
 generalize (v6.alloc (.cells #[.bool (ngB P2), .slice A30 n30 c30] 25)).alloc (.cells #[.bool (ngB R2), .slice A31 n31 c31] 25) = v7 at *
 have q_p := x_p.al
 have q_c := x_c.al
 have q_e := x_e.al
 have q_f := x_f.al
 have q_g := x_g.al
 have q_r := x_r.al
 go_wp2
 replace x_p := x_p.asideL (b' := (ngB P1)) (A' := A20) (n' := n20) (c' := c20) (p' := (ngB R2)) (B' := A31) (m' := n31) (d' := c31) (e' := (W : Int)) (g := w.heap.size) (by omega)
 replace x_c := x_c.asideL (b' := (ngB P1)) (A' := A20) (n' := n20) (c' := c20) (p' := (ngB R2)) (B' := A31) (m' := n31) (d' := c31) (e' := (W : Int)) (g := w.heap.size) (by omega)
 replace x_e := x_e.asideL (b' := (ngB P1)) (A' := A20) (n' := n20) (c' := c20) (p' := (ngB R2)) (B' := A31) (m' := n31) (d' := c31) (e' := (W : Int)) (g := w.heap.size) (by omega)
 replace x_f := x_f.asideL (b' := (ngB P1)) (A' := A20) (n' := n20) (c' := c20) (p' := (ngB R2)) (B' := A31) (m' := n31) (d' := c31) (e' := (W : Int)) (g := w.heap.size) (by omega)
 replace x_g := x_g.asideL (b' := (ngB P1)) (A' := A20) (n' := n20) (c' := c20) (p' := (ngB R2)) (B' := A31) (m' := n31) (d' := c31) (e' := (W : Int)) (g := w.heap.size) (by omega)
 replace z5 := z5.putL (b' := (ngB P1)) (A' := A20) (n' := n20) (c' := c20) (p' := (ngB R2)) (B' := A31) (m' := n31) (d' := c31) (e' := (W : Int)) x_r
 replace z6 := z6.putL (b' := (ngB P1)) (A' := A20) (n' := n20) (c' := c20) (p' := (ngB R2)) (B' := A31) (m' := n31) (d' := c31) (e' := (W : Int)) x_r
 replace z20 := z20.putL (b' := (ngB P1)) (A' := A20) (n' := n20) (c' := c20) (p' := (ngB R2)) (B' := A31) (m' := n31) (d' := c31) (e' := (W : Int)) x_r
 replace z21 := z21.putL (b' := (ngB P1)) (A' := A20) (n' := n20) (c' := c20) (p' := (ngB R2)) (B' := A31) (m' := n31) (d' := c31) (e' := (W : Int)) x_r
 replace z30 := z30.putL (b' := (ngB P1)) (A' := A20) (n' := n20) (c' := c20) (p' := (ngB R2)) (B' := A31) (m' := n31) (d' := c31) (e' := (W : Int)) x_r
 replace z31 := z31.putL (b' := (ngB P1)) (A' := A20) (n' := n20) (c' := c20) (p' := (ngB R2)) (B' := A31) (m' := n31) (d' := c31) (e' := (W : Int)) x_r
 replace hb := put_belowL (g := w.heap.size) hb (by omega) (.bool (ngB P1)) (.slice A20 n20 c20) (.bool (ngB R2)) (.slice A31 n31 c31) (.int .i64 (W : Int))
 replace x_r := x_r.put (ngB P1) A20 n20 c20 (ngB R2) A31 n31 c31 (W : Int)
 clear q_r q_p q_c q_e q_f q_g
 generalize ((((v7.setCell ⟨w.heap.size, 0, none⟩ (.bool (ngB P1))).setCell ⟨w.heap.size, 1, none⟩ (.slice A20 n20 c20)).setCell ⟨w.heap.size, 2, none⟩ (.bool (ngB R2))).setCell ⟨w.heap.size, 3, none⟩ (.slice A31 n31 c31)).setCell ⟨w.heap.size, 4, none⟩ (.int .i64 (W : Int)) = v8 at *
 have q_r := x_r.al
 have q_p := x_p.al
 have q_c := x_c.al
 have q_e := x_e.al
 have q_f := x_f.al
 have q_g := x_g.al
 skip
 refine bodyPost_ret (v := .agg #[.bool (ngB P1), .slice A20 n20 c20, .bool (ngB R2), .slice A31 n31 c31, .int .i64 (W : Int)]) (by simp [results, Tryz.results29, go_sem, q_r]) rfl ?_
 exact ⟨_, _, _, _, _, _, rfl, z20, z31, hb⟩

theorem ent_KAtanh : ∀ (args : Array Value) (w : World), (callFunc 30 args).run Tryz.prog w = .ok (.enter 30 args) w := enters_of Tryz.func30 (by kernel_rfl) rfl
theorem ent_KAtan : ∀ (args : Array Value) (w : World), (callFunc 45 args).run Tryz.prog w = .ok (.enter 45 args) w := enters_of Tryz.func45 (by kernel_rfl) rfl
theorem pt_suc (W m : Nat) : ((2 ^ W / m + 1 : Nat) : Int) = ptN W m + 1 := by unfold ptN; push_cast; rfl
theorem lnHi_pt (W : Nat) : rwHi 1 (ptN W 3 + 1) W (W / 3 + 2) = lnHi W := by rw [← pt_suc]; rfl
theorem arHi_pt (W m : Nat) : rwHi 2 (ptN W m + 1) W (W / 9 + 2) = arHi W m := by rw [← pt_suc]; rfl
theorem lnPart_any (W m M : Nat) (K : Int) (hK : K = (m : Int)) (w : World) (hW : 16 ≤ W ∧ W ≤ 1000) (hm : 3 ≤ m ∧ m ≤ 300) (hc : Nat.Coprime m 2) (hM : W / 3 + 2 = M) (T : Int) (hT : T = (M : Int)) (h3 : m = 3) : Calls Tryz.prog 29 #[.func (.func 30) #[] #[], .int .u64 K, .int .i64 (W : Nat), .int .i64 T] w (OuB w (lnLo W) (lnHi W) W 20) := by
 subst hT
 have hbd := pt_bd (m := m) hW hm.1
 have h := ofPart_any ent_KAtanh (fun X => rwLo 1 X W M) (fun X => rwHi 1 X W M) W m M K hK w hW hm hc
  (fun w' b A n c X hX hz => KAtanh_yes hz W M (by omega) ⟨by omega, by omega⟩ (by rcases hX with rfl | rfl <;> omega) (by omega))
  ⟨(rw_si (by omega) (by omega) (by omega) (by omega) (by omega)).1, (rw_si (by omega) (by omega) (by omega) (by omega) (by omega)).2⟩
 subst hM; subst h3
 have e : rwHi 1 (ptN W 3 + 1) W (W / 3 + 2) = lnHi W := lnHi_pt W
 rw [← e]
 exact h
theorem arPart_any (W m M : Nat) (K : Int) (hK : K = (m : Int)) (w : World) (hW : 16 ≤ W ∧ W ≤ 1000) (hm : 3 ≤ m ∧ m ≤ 300) (hc : Nat.Coprime m 2) (hM : W / 9 + 2 = M) (T : Int) (hT : T = (M : Int)) : Calls Tryz.prog 29 #[.func (.func 45) #[] #[], .int .u64 K, .int .i64 (W : Nat), .int .i64 T] w (OuB w (arLo W m) (arHi W m) W 20) := by
 subst hT
 have hbd := pt_bd (m := m) hW hm.1
 have h := ofPart_any ent_KAtan (fun X => rwLo 2 X W M) (fun X => rwHi 2 X W M) W m M K hK w hW hm hc
  (fun w' b A n c X hX hz => KAtan_yes hz W M (by omega) ⟨by omega, by omega⟩ (by rcases hX with rfl | rfl <;> omega) (by omega))
  ⟨(rw_si (by omega) (by omega) (by omega) (by omega) (by omega)).1, (rw_si (by omega) (by omega) (by omega) (by omega) (by omega)).2⟩
 subst hM
 rw [← arHi_pt W m]
 exact h
end Go.Proofs.YtiikmjnnlckiiaaGreat
