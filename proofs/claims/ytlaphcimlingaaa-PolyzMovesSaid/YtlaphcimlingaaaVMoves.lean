/-
  polyz: PolyzMoves.
-/
import Derived.Test.YtlaphcimlingaaaVRl
import Derived.Test.YtlaphcimlingaaaVRq
import Derived.Test.YtlaphcimlingaaaVshi
import Derived.Test.YtlaphcimlingaaaVstr
import Derived.Test.YtlaphcimlingaaaVnew
namespace Go.Proofs.Ytlaphcimlingaaa
open Go.RowKit
open MP.Se (nf co)
set_option linter.unusedVariables false
set_option maxRecDepth 100000

set_option maxHeartbeats 4000000 in
/-- The law. -/
theorem PolyzMoves_any {A C : Option Addr} {kp cp kx cx : Nat} {bx : Bool} {lp lx : List Int} {w : World} (ap : Pa w A kp cp lp) (gx : Rd w w.heap.size C kx cx lx) :
    Calls Try.prog 3 #[.slice A kp cp, .agg #[.bool bx, .slice C kx cx]] w fun e w' => e = .returned (.bool true) ∧ Below w.heap.size w w' := by
  have hbig := gx.big
  obtain ⟨X, zx⟩ := Zr.of_rd (b := bx) gx
  clear gx
  go_enter Try.func3, Try.ntmps3
  go_wp2_with fail
  refine al1c fun v1 hb x_x => ?_
  replace x_x := Bx.of x_x
  obtain ⟨ap, zx⟩ := mv2 hb ap zx
  have q_x := x_x.al
  go_wp2_with fail
  with_reducible refine (Lshown_any).mono ?_
  rintro e v2 ⟨rfl, hb1⟩
  obtain ⟨x_x, ap, zx, hb⟩ := mv4 hb1 x_x ap zx hb
  clear hb1
  replace q_x := x_x.al
  go_wp2_with fail
  with_reducible refine (Lfits_any ap).mono ?_
  rintro e v3 ⟨β, rfl, h1, hb1⟩
  obtain ⟨x_x, ap, zx, hb⟩ := mv4 hb1 x_x ap zx hb
  clear hb1
  replace q_x := x_x.al
  cases β
  · go_wp2; go_ret; exact ⟨rfl, hb⟩
  obtain ⟨ep, np, pp⟩ := h1 rfl
  clear h1 ap
  by_cases hxx : kx ≤ 3
  rotate_left
  · have hx2 : (3 : Int) < kx := by omega
    go_wp2; go_ret; exact ⟨rfl, hb⟩
  replace zx := zx.kto hxx
  obtain ⟨Rp, rp, hlp, hjp⟩ := pp.pd.raw
  have HLp := Lib.hid hlp; have HJp := Lib.hid hjp; clear hlp hjp
  go_wp2_with fail
  with_reducible refine (DoOwn_any rp (by omega) (fun r hr => Nat.le_trans (HJp.out r hr) (by omega))).mono ?_
  rintro e v4 ⟨Aa, na, ca, rfl, ra, hb1⟩
  obtain ⟨x_x, zx, pp, rp, hb⟩ := mv5 hb1 x_x zx pp rp hb
  clear hb1
  replace q_x := x_x.al
  obtain rfl : kp = na := by rw [← ra.len, rp.len]
  have pa := (ra.pd HJp.out).pe
  rw [← HLp.out] at pa
  go_upto_region 4 with fail
  go_region_held3 (fun w' => w'.cell? ⟨w.heap.size, 0, none⟩ = some (.bool bx) ∧ w'.cell? ⟨w.heap.size, 1, none⟩ = some (.slice C kx cx))
    (first | (with_reducible exact ⟨x_x.c0, x_x.c1⟩) | go_keep)
    (first | (go_at_call 12; (with_reducible refine (PShift_any (J := 3) (J2 := 3) (K := 465) pa.pd.drw zx.drw (by omega) (by have := Nat.mul_le_mul np (show 3 + 2 * kp + 2 ≤ 33 by omega); omega) (by omega)).mono ?_); rintro e v5 ⟨L1, m1, hL, A1, k1, c1, rfl, p1, hb1⟩; replace hb1 := undrew hb1; obtain ⟨x_x, zx, pp, rp, ra, pa, hb⟩ := mv7 hb1 x_x zx pp rp ra pa hb; clear hb1; replace q_x := x_x.al; have e1 : Lb L1 (MP.Se.pu (co lp) (MP.Se.xa (X))) 14 := ⟨hL.trans (by rw [ep.out]), MP.Se.pu_bd ep.bd (MP.Se.Bd.xa _)⟩; have n1 := e1.len m1 p1.pd.len; clear hL) | (go_at_call 13; (with_reducible refine (DoShift_any (J := 3) (J2 := 3) pp.pd zx (by omega) (by omega) (by omega)).mono ?_); rintro e v6 ⟨L2, A2, k2, c2, rfl, m2, hL, p2, hb1⟩; obtain ⟨x_x, zx, pp, rp, ra, pa, p1, hb⟩ := mv8 hb1 x_x zx pp rp ra pa p1 hb; clear hb1; replace q_x := x_x.al; replace p2 := p2.kto (show 3 + 1 + kp * (3 + 16) ≤ 270 by omega); have e2 : Lb L2 (MP.Se.pu (co lp) (MP.Se.xa X)) 14 := ⟨hL.trans (by rw [ep.out]), MP.Se.pu_bd ep.bd (MP.Se.Bd.xa _)⟩; have n2 := e2.len m2 p2.pd.len; clear hL) | (go_at_call 11; (with_reducible refine (Lsame_any p1.pn p2.pn).mono ?_); rintro e v7 ⟨rfl, hb1⟩; obtain ⟨x_x, zx, pp, rp, ra, pa, p1, p2, hb⟩ := mv9 hb1 x_x zx pp rp ra pa p1 p2 hb; clear hb1; replace q_x := x_x.al; rw [e1.same e2 m1 m2 (rfl)]) | (go_at_call 14; (with_reducible refine (PStretch_any (J := 3) (J2 := 3) (K := 46) pa.pd zx (by have := Nat.mul_le_mul np (Nat.le_refl 3); omega) (by omega)).mono ?_); rintro e v8 ⟨L3, m3, hL, A3, k3, c3, rfl, p3, hb1⟩; obtain ⟨x_x, zx, pp, rp, ra, pa, p1, p2, hb⟩ := mv9 hb1 x_x zx pp rp ra pa p1 p2 hb; clear hb1; replace q_x := x_x.al; have e3 : Lb L3 (MP.Se.pu (co lp) (MP.Se.xc (X))) 14 := ⟨hL.trans (by rw [ep.out]), MP.Se.pu_bd ep.bd (MP.Se.Bd.xc _)⟩; have n3 := e3.len m3 p3.pd.len; clear hL) | (go_at_call 15; (with_reducible refine (DoStretch_any (J := 3) (J2 := 3) pp.pd zx (by omega) (by omega)).mono ?_); rintro e v9 ⟨L4, A4, k4, c4, rfl, m4, hL, p4, hb1⟩; obtain ⟨x_x, zx, pp, rp, ra, pa, p1, p2, p3⟩ := mv9 hb1 x_x zx pp rp ra pa p1 p2 p3; replace hb := Mv.mv hb hb1; clear hb1; replace q_x := x_x.al; replace p4 := p4.kto (show 3 + 1 + kp * (3 + 16) ≤ 270 by omega); have e4 : Lb L4 (MP.Se.pu (co lp) (MP.Se.xc X)) 14 := ⟨hL.trans (by rw [ep.out]), MP.Se.pu_bd ep.bd (MP.Se.Bd.xc _)⟩; have n4 := e4.len m4 p4.pd.len; clear hL) | (go_at_call 11; (with_reducible refine (Lsame_any p3.pn p4.pn).mono ?_); rintro e v10 ⟨rfl, hb1⟩; obtain ⟨x_x, zx, pp, rp, ra, pa, p1, p2, p3⟩ := mv9 hb1 x_x zx pp rp ra pa p1 p2 p3; obtain ⟨p4, hb⟩ := mv2 hb1 p4 hb; clear hb1; replace q_x := x_x.al; rw [e3.same e4 m3 m4 (rfl)]) | (go_at_call 11; (with_reducible refine (LsameR_any ra rp).mono ?_); rintro e v11 ⟨rfl, hb1⟩; obtain ⟨x_x, zx, pp, rp, ra, pa, p1, p2, p3⟩ := mv9 hb1 x_x zx pp rp ra pa p1 p2 p3; obtain ⟨p4, hb⟩ := mv2 hb1 p4 hb; clear hb1; replace q_x := x_x.al; rw [show decide (Rp = Rp) = true from decide_eq_true rfl]))
  go_wp2
  go_ret
  exact ⟨rfl, hb⟩
end Go.Proofs.Ytlaphcimlingaaa
