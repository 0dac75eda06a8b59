/-
  the document: Times.
-/
import Derived.Test.YtlaphcimlingaaaGreatVRa
namespace Go.Proofs.YtlaphcimlingaaaGreat
open Go.RowKit
open MP.Se (nf co)
set_option linter.unusedVariables false
set_option maxRecDepth 100000

theorem Gr.size {s : Value} {w w' : World} (h : Gr s w w') : w.heap.size ≤ w'.heap.size := h.grown.size
theorem Ec.gr {s : Value} {w w' : World} {d o n c : Nat} {b : Bool} {A : Option Addr} (h : Ec w d o b A n c) (hg : Gr s w w') (hne : s.ownBlock ≠ some d) : Ec w' d o b A n c :=
  ⟨Nat.lt_of_lt_of_le h.1 hg.size, (World.cell?_of_block (hg.at_ h.1 hne)).trans h.2.1, (World.cell?_of_block (hg.at_ h.1 hne)).trans h.2.2⟩
theorem DoTimes_any {A A2 : Option Addr} {n c n2 c2 J J2 : Nat} {b : Bool} {X : Int} {l : List Int} {w : World} (h : Pd w w.heap.size A n c l J) (z : Zr w b A2 n2 c2 X J2) (hJ : J2 + J ≤ 90000) (hn : n ≤ 1000) :
    Calls Tryz.prog 31 #[.slice A n c, .agg #[.bool b, .slice A2 n2 c2]] w (OutN w (MP.Se.sm X (co l)) (J2 + J)) := by
  have hl := h.len
  obtain ⟨s, hs⟩ : ∃ s, MP.Se.sm X (co l) = s := ⟨_, rfl⟩
  have HB : Hid (MP.Se.Bd s n) := Lib.hid (by rw [← hs, ← hl]; exact (MP.Se.co_bd l).sm)
  have HS : Hid (∀ i, X * (co l) i = s i) := Lib.hid fun i => by rw [← hs]; rfl
  rw [hs]
  have HL := Lib.hid hl
  replace h := h.pe
  clear hl hs
  go_enter Tryz.func31, Tryz.ntmps31
  go_upto_region 1 with fail
  refine al1 fun v1 hb x => ?_
  have x_x := Bx.of x
  obtain ⟨h, z⟩ := mv2 hb h z
  have H := Lib.hid h; have HZ := Lib.hid z; have HX := Lib.hid x_x
  have hlt := x_x.lt
  clear x x_x h z
  go_upto_region 2 with fail
  refine al1 fun v2 hv x_o => ?_
  have gz : Gz v2 v1.heap.size (J2 + J) (.slice (some ⟨v1.heap.size, 0, none⟩) 0 0) (MP.Se.ls 0 s) := gz_new x_o (Nat.le_refl _)
  clear x_o
  go_wp2_with fail
  go_loopw [5, 6] (fun sv kv wr => ∃ i : Nat, i ≤ n ∧ kv = .int .i64 (i : Int) ∧ Gz wr v1.heap.size (J2 + J) sv (MP.Se.ls i s) ∧ Below v1.heap.size v1 wr) (fun _ kv _ => n - (intOf kv).toNat)
  case atStart => exact ⟨0, by omega, rfl, gz, hv⟩
  case round =>
    clear gz hv
    obtain ⟨i, hi, rfl, gz, hv⟩ := hrel
    have htk : Hid (MP.Se.ls i s ++ [s i] = MP.Se.ls (i + 1) s) := Lib.hid (MP.Se.ls_succ i s).symm
    have hln : (MP.Se.ls i s).length ≤ 1000 := by rw [MP.Se.len_ls]; omega
    have hsi : Hid (X * (co l) i = s i) := Lib.hid (HS.out i)
    rcases (show n = i ∨ i < n by omega) with hin | hin
    · subst hin
      obtain ⟨A5, c5, rfl, p⟩ := gz.pn (by omega)
      rw [MP.Se.len_ls] at p
      rw [MP.Se.len_ls]
      clear gz htk hsi
      go_wp2_with fail
      with_reducible refine (DoNorm_any p.pd (by omega) (by omega)).mono ?_
      rintro e v3 ⟨L, A6, n6, c6, rfl, hN, hL, p6, hb1⟩
      have hL2 := Lib.hid (hL.trans (MP.Se.co_ls HB.out))
      replace hv := bthen hv hb1
      clear hL p hb1
      go_wp2
      go_ret
      exact ⟨L, _, _, _, rfl, hN, hL2.out, p6, bthen hb hv⟩
    · obtain ⟨d, o, b5, A5, n5, c5, rfl, hd5, x_e, ze⟩ := (H.out.keep hv).ec hin
      rw [← MP.Se.co_at (show i < l.length by rw [HL.out]; exact hin)] at ze
      have hdv : d < v1.heap.size := by omega
      generalize (co l) i = Y at *
      have x_x := HX.out.keep hv
      have zz := HZ.out.keep hv
      have hss := hv.size
      generalize MP.Se.ls i s = m at *
      generalize s i = U at *
      have q_e := x_e.al; have q_x := x_x.al
      have ne_x := gz.ne (k := w.heap.size) (.inl hlt); have ne_e := gz.ne (k := d) (.inl hdv)
      have hv0 := Below.refl wr.heap.size wr
      go_upto_region 5 with fail
      go_region_held3 (fun w' => w'.cell? ⟨w.heap.size, 0, none⟩ = some (.bool b) ∧ w'.cell? ⟨w.heap.size, 1, none⟩ = some (.slice A2 n2 c2) ∧ w'.cell? ⟨d, o + i * 2, none⟩ = some (.bool b5) ∧ w'.cell? ⟨d, o + i * 2 + 1, none⟩ = some (.slice A5 n5 c5))
        (first | (with_reducible exact ⟨x_x.c0, x_x.c1, x_e.c0, x_e.c1⟩) | go_keep)
        (first | (go_at_call 74; (with_reducible refine (RMulZ_any zz.drw ze.drw (J2 + J) (by omega) (by omega)).mono ?_); rintro e v5 ⟨A8, n8, c8, rfl, z8, hb1⟩; replace hb1 := undrew hb1; replace hv0 := hb1; replace x_x := x_x.keep hb1; replace x_e := x_e.keep hb1; replace gz := gz.keep hb1; replace hv := bthen hv hb1; replace hss := hv.size; clear hb1; replace q_e := x_e.al; replace q_x := x_x.al; rw [hsi.out] at z8 ⊢) | (refine step_pushG (V := v5) (by rfl) _ _ (by rfl) (by rfl) gz hln hss z8 (by rfl) ?_; intro s8 w8 hpu; replace x_x := x_x.gr hpu.2.1 ne_x; replace x_e := x_e.gr hpu.2.1 ne_e))
      all_goals
        have hgz := hpu.1
        rw [htk.out] at hgz
        have hb2 := Gr.below hv hss gz hpu.2.1 (Nat.le_refl _)
        clear q_e q_x x_x x_e gz hpu htk
        go_wp2_with fail
        exact ⟨⟨i + 1, by omega, by go_num, hgz, hb2⟩, by simp [intOf]; omega⟩
end Go.Proofs.YtlaphcimlingaaaGreat
