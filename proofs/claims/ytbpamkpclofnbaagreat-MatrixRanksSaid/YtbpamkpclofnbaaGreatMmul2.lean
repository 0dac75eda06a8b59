/-
  matrix: Mul, Turn.
-/
import Derived.Test.YtbpamkpclofnbaaGreatMmul
namespace Go.Proofs.YtbpamkpclofnbaaGreat
open Go.RowKit
open MP.Se (nf co)
set_option linter.unusedVariables false
set_option maxRecDepth 100000

/-- A matrix is handed back. -/
def OutM (w : World) (M : List (List Int)) (K : Nat) (e : Ending) (w' : World) : Prop := ∃ A n c, e = .returned (.tuple #[.slice A n c, .int .i64 0]) ∧ Mn w' A n c M K ∧ Below w.heap.size w w'
/-- No matrix is handed back, but an error. -/
def ErM (w : World) (x : Int) (e : Ending) (w' : World) : Prop := e = .returned (.tuple #[.slice none 0 0, .int .i64 x]) ∧ Below w.heap.size w w'
theorem ent_MulC : ∀ (args : Array Value) (w : World), (callFunc 82 args).run Tryz.prog w = .ok (.enter 82 args) w := enters_of Tryz.func82 (by kernel_rfl) rfl
theorem ent_TurnC : ∀ (args : Array Value) (w : World), (callFunc 85 args).run Tryz.prog w = .ok (.enter 85 args) w := enters_of Tryz.func85 (by kernel_rfl) rfl
theorem Rt.uni {M : List (List Int)} {n m n2 m2 : Nat} (h : Rt M n m) (h2 : Rt M n2 m2) : n = n2 ∧ m = m2 := by
  have h3 : 0 < M.length := by rw [h.1]; exact h.2.1
  exact ⟨h.1.symm.trans h2.1, by rw [← h.2.2.2 0 h3, h2.2.2.2 0 h3]⟩
theorem MRight_yes {A : Option Addr} {n c J m : Nat} {M : List (List Int)} {w : World} (h : Md w w.heap.size A n c M J) (hr : Rt M n m) :
    Calls Tryz.prog 33 #[.slice A n c] w fun e w' => e = .returned (.bool true) ∧ Below w.heap.size w w' := (MRight_any h).mono fun e w' ⟨β, he, hc, hb⟩ => by
  rcases hc with ⟨rfl, _⟩ | ⟨rfl, hn⟩
  · exact ⟨he, hb⟩
  · exact absurd hr (hn _ _)
theorem MRight_no {A : Option Addr} {n c J : Nat} {M : List (List Int)} {w : World} (h : Md w w.heap.size A n c M J) (hr : ∀ m, ¬ Rt M n m) :
    Calls Tryz.prog 33 #[.slice A n c] w fun e w' => e = .returned (.bool false) ∧ Below w.heap.size w w' := (MRight_any h).mono fun e w' ⟨β, he, hc, hb⟩ => by
  rcases hc with ⟨rfl, m, hm, _⟩ | ⟨rfl, hn⟩
  · exact absurd hm (hr _)
  · exact ⟨he, hb⟩
theorem Rt.cols {M : List (List Int)} {n m m2 : Nat} (h : Rt M n m) (h2 : Rt M n m2) : m = m2 := by
  have h3 : 0 < M.length := by rw [h.1]; exact h.2.1
  rw [← h.2.2.2 0 h3, h2.2.2.2 0 h3]
/-- What Mul tells. -/
def MuP (w : World) (M N : List (List Int)) (na nb K : Nat) (e : Ending) (w' : World) : Prop :=
  (∃ q, Rt M na nb ∧ Rt N nb q ∧ OutM w (mo2 (MD.mul nb (mx M) (mx N)) na q) K e w') ∨ ((∀ q, ¬ (Rt M na nb ∧ Rt N nb q)) ∧ ErM w 1 e w')
set_option maxHeartbeats 8000000 in
theorem MMul_any {A B : Option Addr} {na ca nb cb J J2 : Nat} {M N : List (List Int)} {w : World} (h : Md w w.heap.size A na ca M J) (h2 : Md w w.heap.size B nb cb N J2) (hna : na ≤ 1000) (hnb : nb ≤ 1000) (hq : ∀ q, Rt N nb q → q ≤ 1000) (hJ : J + J2 + nb ≤ 900000) :
    Calls Tryz.prog 28 #[.slice A na ca, .slice B nb cb] w (MuP w M N na nb (J + J2 + nb)) := by
  replace h := h.me; replace h2 := h2.me
  have hl := h.len; have hl2 := h2.len
  have HL := Lib.hid hl; have HL2 := Lib.hid hl2
  clear hl hl2
  by_cases hr : ∃ p, Rt M na p
  rotate_left
  · have HNO : Hid (∀ m, ¬ Rt M na m) := Lib.hid fun m h => hr ⟨m, h⟩
    have HN : Hid (∀ q, ¬ (Rt M na nb ∧ Rt N nb q)) := Lib.hid fun q h => hr ⟨_, h.1⟩
    clear hr
    go_enter Tryz.func28, Tryz.ntmps28
    go_upto_region 1 with fail
    refine al2 fun v0 hb x_a x_b => ?_
    replace x_a := Vc.of x_a; replace x_b := Vc.of x_b
    obtain ⟨h, h2⟩ := mv2 hb h h2
    have q_a := x_a.al
    have q_b := x_b.al
    have once := True.intro
    go_region_law (first | (go_simp; clear once; go_at_call 33; (with_reducible refine (MRight_no h.drw.md HNO.out).mono ?_); rintro e v1 ⟨rfl, hb1⟩; replace hb1 := undrew hb1; obtain ⟨x_a, x_b, h, h2, hb⟩ := mv5 hb1 x_a x_b h h2 hb; clear hb1; replace q_a := x_a.al; replace q_b := x_b.al))
    all_goals
      go_wp2
      go_ret2
      exact .inr ⟨HN.out, rfl, hb⟩
  obtain ⟨p, hr⟩ := hr
  have HR := Lib.hid hr; have h0 := hr.2.1
  clear hr
  by_cases hr2 : ∃ q, Rt N nb q
  rotate_left
  · have HNO : Hid (∀ m, ¬ Rt N nb m) := Lib.hid fun m h => hr2 ⟨m, h⟩
    have HN : Hid (∀ q, ¬ (Rt M na nb ∧ Rt N nb q)) := Lib.hid fun q h => hr2 ⟨_, h.2⟩
    clear hr2
    go_enter Tryz.func28, Tryz.ntmps28
    go_upto_region 1 with fail
    refine al2 fun v0 hb x_a x_b => ?_
    replace x_a := Vc.of x_a; replace x_b := Vc.of x_b
    obtain ⟨h, h2⟩ := mv2 hb h h2
    have q_a := x_a.al
    have q_b := x_b.al
    have once := True.intro
    go_region_law (first | (go_simp; clear once; go_at_call 33; (with_reducible refine (MRight_yes h.drw.md HR.out).mono ?_); rintro e v1 ⟨rfl, hb1⟩; replace hb1 := undrew hb1; obtain ⟨x_a, x_b, h, h2, hb⟩ := mv5 hb1 x_a x_b h h2 hb; clear hb1; replace q_a := x_a.al; replace q_b := x_b.al) | (go_simp; go_at_call 33; (with_reducible refine (MRight_no h2.md HNO.out).mono ?_); rintro e v2 ⟨rfl, hb1⟩; obtain ⟨x_a, x_b, h, h2, hb⟩ := mv5 hb1 x_a x_b h h2 hb; clear hb1; replace q_a := x_a.al; replace q_b := x_b.al))
    all_goals
      go_wp2
      go_ret2
      exact .inr ⟨HN.out, rfl, hb⟩
  obtain ⟨q, hr2⟩ := hr2
  have HR2 := Lib.hid hr2; have h02 := hr2.2.1; have hqq := hq q hr2
  clear hr2
  by_cases he : nb = p
  rotate_left
  · have HN : Hid (∀ q, ¬ (Rt M na nb ∧ Rt N nb q)) := Lib.hid fun q h => he (h.1.cols HR.out)
    go_enter Tryz.func28, Tryz.ntmps28
    go_upto_region 1 with fail
    refine al2 fun v0 hb x_a x_b => ?_
    replace x_a := Vc.of x_a; replace x_b := Vc.of x_b
    obtain ⟨h, h2⟩ := mv2 hb h h2
    have q_a := x_a.al
    have q_b := x_b.al
    obtain ⟨d, o, A1, m1, c1, rfl, hd, x_i, p_i⟩ := h.row0 h0
    obtain rfl : p = m1 := by rw [← p_i.2.len]; exact (HR.out.2.2.2 0 (by rw [HL.out]; exact h0)).symm
    clear p_i
    have q_i := x_i.al
    have hne2 : ((nb : Int) != p) = true := by simp; omega
    have once := True.intro
    go_region_held3 (fun w' => w'.cell? ⟨w.heap.size, 0, none⟩ = some (.slice (some ⟨d, o, none⟩) na ca) ∧ w'.cell? ⟨w.heap.size + 1, 0, none⟩ = some (.slice B nb cb) ∧ w'.cell? ⟨d, o, none⟩ = some (.slice A1 p c1))
      (first | (with_reducible exact ⟨x_a.c0, x_b.c0, x_i.c0⟩) | go_keep)
      (first | (clear once; go_at_call 33; (with_reducible refine (MRight_yes h.drw.md HR.out).mono ?_); rintro e v1 ⟨rfl, hb1⟩; replace hb1 := undrew hb1; obtain ⟨x_a, x_b, x_i, h, h2, hb⟩ := mv6 hb1 x_a x_b x_i h h2 hb; clear hb1; replace q_a := x_a.al; replace q_b := x_b.al; replace q_i := x_i.al) | (go_at_call 33; (with_reducible refine (MRight_yes h2.md HR2.out).mono ?_); rintro e v2 ⟨rfl, hb1⟩; obtain ⟨x_a, x_b, x_i, h, h2, hb⟩ := mv6 hb1 x_a x_b x_i h h2 hb; clear hb1; replace q_a := x_a.al; replace q_b := x_b.al; replace q_i := x_i.al))
    go_wp2
    go_ret2
    exact .inr ⟨HN.out, rfl, hb⟩
  · subst he
    have HRR := HR
    go_enter Tryz.func28, Tryz.ntmps28
    go_upto_region 1 with fail
    refine al2 fun v0 hb x_a x_b => ?_
    replace x_a := Vc.of x_a; replace x_b := Vc.of x_b
    obtain ⟨h, h2⟩ := mv2 hb h h2
    have q_a := x_a.al
    have q_b := x_b.al
    obtain ⟨d, o, A1, m1, c1, rfl, hd, x_i, p_i⟩ := h.row0 h0
    obtain rfl : nb = m1 := by rw [← p_i.2.len]; exact (HR.out.2.2.2 0 (by rw [HL.out]; exact h0)).symm
    clear p_i
    have q_i := x_i.al
    have hne2 : ((nb : Int) != nb) = false := by simp
    have once := True.intro
    go_region_held3 (fun w' => w'.cell? ⟨w.heap.size, 0, none⟩ = some (.slice (some ⟨d, o, none⟩) na ca) ∧ w'.cell? ⟨w.heap.size + 1, 0, none⟩ = some (.slice B nb cb) ∧ w'.cell? ⟨d, o, none⟩ = some (.slice A1 nb c1))
      (first | (with_reducible exact ⟨x_a.c0, x_b.c0, x_i.c0⟩) | go_keep)
      (first | (clear once; go_at_call 33; (with_reducible refine (MRight_yes h.drw.md HR.out).mono ?_); rintro e v1 ⟨rfl, hb1⟩; replace hb1 := undrew hb1; obtain ⟨x_a, x_b, x_i, h, h2, hb⟩ := mv6 hb1 x_a x_b x_i h h2 hb; clear hb1; replace q_a := x_a.al; replace q_b := x_b.al; replace q_i := x_i.al) | (go_at_call 33; (with_reducible refine (MRight_yes h2.md HR2.out).mono ?_); rintro e v2 ⟨rfl, hb1⟩; obtain ⟨x_a, x_b, x_i, h, h2, hb⟩ := mv6 hb1 x_a x_b x_i h h2 hb; clear hb1; replace q_a := x_a.al; replace q_b := x_b.al; replace q_i := x_i.al))
    obtain ⟨d2, o2, A2, m2, c2, rfl, hd2, x_j, p_j⟩ := h2.row0 h02
    have hm2 : m2 = q := by rw [← p_j.2.len]; exact HR2.out.2.2.2 0 (by rw [HL2.out]; exact h02)
    subst hm2
    clear p_j
    clear q_a q_b q_i
    have q_a := x_a.al
    have q_b := x_b.al
    have q_i := x_i.al
    have q_j := x_j.al
    have C : ∀ v0, Below v2.heap.size v2 v0 → Bc v0 82 #[.pointer (some ⟨w.heap.size + 1, 0, none⟩), .pointer (some ⟨w.heap.size, 0, none⟩)] (MD.mul nb (mx M) (mx N)) na m2 (J + J2 + nb) := fun v0 hv0 => ⟨ent_MulC, fun w3 i k hi hk hb3 => (MulC_any ((x_a.keep hv0).keep hb3) ((x_b.keep hv0).keep hb3) (((h.keep hv0).keep hb3).md.me) (((h2.keep hv0).keep hb3).md.me) HRR.out HR2.out hi hk hnb hJ)⟩
    go_upto_region 3 with fail
    go_region_held3 (fun w' => w'.cell? ⟨w.heap.size, 0, none⟩ = some (.slice (some ⟨d, o, none⟩) na ca) ∧ w'.cell? ⟨w.heap.size + 1, 0, none⟩ = some (.slice (some ⟨d2, o2, none⟩) nb cb) ∧ w'.cell? ⟨d2, o2, none⟩ = some (.slice A2 m2 c2))
      (first | (with_reducible exact ⟨x_a.c0, x_b.c0, x_j.c0⟩) | go_keep)
      (first | (go_at_call 81; (with_reducible refine (Mbuild_any (C _ (below_drew (Below.refl _ _))) hna hqq (by omega)).mono ?_); rintro e v3 ⟨A3, c3, rfl, p3, hb1⟩; replace hb1 := undrew hb1; obtain ⟨x_a, x_b, x_i, x_j, h, h2, hb⟩ := mv7 hb1 x_a x_b x_i x_j h h2 hb; clear hb1; replace q_a := x_a.al; replace q_b := x_b.al; replace q_i := x_i.al; replace q_j := x_j.al))
    go_wp2
    go_ret2
    exact .inl ⟨m2, HRR.out, HR2.out, _, _, _, rfl, p3, hb⟩
/-- What Turn tells. -/
def TuP (w : World) (M : List (List Int)) (n K : Nat) (e : Ending) (w' : World) : Prop :=
  (∃ m, Rt M n m ∧ OutM w (mo2 (MD.tr (mx M)) m n) K e w') ∨ ((∀ m, ¬ Rt M n m) ∧ ErM w 1 e w')
theorem TurnC_any {w : World} {ga na ca i k m J : Nat} {A : Option Addr} {M : List (List Int)} (x_a : Vc w ga 0 (.slice A na ca)) (h : Me w w.heap.size A na ca M J) (hM : Rt M na m) (hi : i < m) (hk : k < na) :
    Calls Tryz.prog 85 #[.int .i64 (i : Int), .int .i64 (k : Int), .pointer (some ⟨ga, 0, none⟩)] w (OutZ w (MD.tr (mx M) i k) J) := by
  have h1 : k < M.length := by rw [hM.1]; exact hk
  have h3 : i < M[k].length := by rw [hM.2.2.2 k h1]; exact hi
  obtain ⟨d, o, A5, m5, c5, rfl, hd, x_i, p_i⟩ := h.row hk
  have hm5 : i < m5 := by rw [← p_i.2.len]; exact h3
  have hm5b := p_i.2.big
  obtain ⟨d3, o3, b7, A7, n7, c7, rfl, hd3, x_e, z7⟩ := p_i.ec hm5
  rw [← mx_at h1 h3] at z7
  have hmt : MD.tr (mx M) i k = mx M k i := rfl
  rw [hmt]
  generalize mx M k i = Y at *
  have hna := h.big
  clear p_i h1 h3 hM hmt h
  have hga := x_a.lt
  go_enter Tryz.func85, Tryz.ntmps85
  have hb := Below.refl w.heap.size w
  go_upto_region 1 with fail
  have hb0 := hb; clear hb
  refine al1 fun v1 hb x_r => ?_
  replace x_r := Bx.of x_r
  obtain ⟨x_a, x_i, x_e, z7⟩ := mv4 hb x_a x_i x_e z7
  have q_r := x_r.al
  have q_a := x_a.al
  have q_i := x_i.al
  have q_e := x_e.al
  go_wp2_with fail
  with_reducible refine (ZNorm_any z7 J (Nat.le_refl _)).mono ?_
  rintro e v1 ⟨A8, n8, c8, rfl, z8, hb1⟩
  obtain ⟨x_r, x_a, x_i, x_e, z7, hb⟩ := mv6 hb1 x_r x_a x_i x_e z7 hb
  clear hb1
  replace q_r := x_r.al
  replace q_a := x_a.al
  replace q_i := x_i.al
  replace q_e := x_e.al
  go_wp2
  clear q_r q_a q_i q_e
  refine x_r.st fun v2 hs hx => ?_
  obtain ⟨x_a, x_i, x_e, z7, z8, hb⟩ := ms6 hs ⟨by omega, by omega, by omega, trivial, trivial, by omega⟩ x_a x_i x_e z7 z8 hb
  replace x_r := hx; clear hx hs
  have q_r := x_r.al
  have q_a := x_a.al
  have q_i := x_i.al
  have q_e := x_e.al
  skip
  refine bodyPost_ret (v := .agg #[.bool (ngB Y), .slice A8 n8 c8]) (by simp [results, Tryz.results85, go_sem, q_r]) rfl ?_
  exact ⟨_, _, _, rfl, z8, hb⟩
theorem MTurn_any {A : Option Addr} {na ca J : Nat} {M : List (List Int)} {w : World} (h : Md w w.heap.size A na ca M J) (hna : na ≤ 1000) (hq : ∀ q, Rt M na q → q ≤ 1000) (hJ : J ≤ 900000) :
    Calls Tryz.prog 30 #[.slice A na ca] w (TuP w M na J) := by
  replace h := h.me
  have hl := h.len
  have HL := Lib.hid hl
  clear hl
  by_cases hr : ∃ p, Rt M na p
  rotate_left
  · have HNO : Hid (∀ m, ¬ Rt M na m) := Lib.hid fun m h => hr ⟨m, h⟩
    clear hr
    go_enter Tryz.func30, Tryz.ntmps30
    go_upto_region 1 with fail
    refine al1 fun v0 hb x_a => ?_
    replace x_a := Vc.of x_a
    replace h := Mv.mv h hb
    have q_a := x_a.al
    go_wp2_with fail
    with_reducible refine (MRight_no h.md HNO.out).mono ?_
    rintro e v1 ⟨rfl, hb1⟩
    obtain ⟨x_a, h, hb⟩ := mv3 hb1 x_a h hb
    clear hb1
    replace q_a := x_a.al
    go_wp2
    go_ret2
    exact .inr ⟨HNO.out, rfl, hb⟩
  · obtain ⟨p, hr⟩ := hr
    have HR := Lib.hid hr; have h0 := hr.2.1; have hpp := hq p hr
    clear hr
    go_enter Tryz.func30, Tryz.ntmps30
    go_upto_region 1 with fail
    refine al1 fun v0 hb x_a => ?_
    replace x_a := Vc.of x_a
    replace h := Mv.mv h hb
    have q_a := x_a.al
    go_wp2_with fail
    with_reducible refine (MRight_yes h.md HR.out).mono ?_
    rintro e v1 ⟨rfl, hb1⟩
    obtain ⟨x_a, h, hb⟩ := mv3 hb1 x_a h hb
    clear hb1
    replace q_a := x_a.al
    obtain ⟨d, o, A1, m1, c1, rfl, hd, x_i, p_i⟩ := h.row0 h0
    have hm1 : m1 = p := by rw [← p_i.2.len]; exact HR.out.2.2.2 0 (by rw [HL.out]; exact h0)
    subst hm1
    clear p_i
    clear q_a
    have q_a := x_a.al
    have q_i := x_i.al
    have C : ∀ v0, Below v1.heap.size v1 v0 → Bc v0 85 #[.pointer (some ⟨w.heap.size, 0, none⟩)] (MD.tr (mx M)) m1 na J := fun v0 hv0 => ⟨ent_TurnC, fun w3 i k hi hk hb3 => (TurnC_any ((x_a.keep hv0).keep hb3) (((h.keep hv0).keep hb3).md.me) HR.out hi hk)⟩
    go_upto_region 3 with fail
    go_region_held3 (fun w' => w'.cell? ⟨w.heap.size, 0, none⟩ = some (.slice (some ⟨d, o, none⟩) na ca) ∧ w'.cell? ⟨d, o, none⟩ = some (.slice A1 m1 c1))
      (first | (with_reducible exact ⟨x_a.c0, x_i.c0⟩) | go_keep)
      (first | (go_at_call 81; (with_reducible refine (Mbuild_any (C _ (below_drew (Below.refl _ _))) hpp hna (by omega)).mono ?_); rintro e v2 ⟨A3, c3, rfl, p3, hb1⟩; replace hb1 := undrew hb1; obtain ⟨x_a, x_i, h, hb⟩ := mv4 hb1 x_a x_i h hb; clear hb1; replace q_a := x_a.al; replace q_i := x_i.al))
    go_wp2
    go_ret2
    exact .inl ⟨m1, HR.out, _, _, _, rfl, p3, hb⟩
end Go.Proofs.YtbpamkpclofnbaaGreat
