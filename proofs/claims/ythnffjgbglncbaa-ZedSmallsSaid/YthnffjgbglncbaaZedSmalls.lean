/-
  The law ZedSmalls, as a call.
-/
import Derived.Test.YthnffjgbglncbaaZshown
import Derived.Test.YthnffjgbglncbaaZref
namespace Go.Proofs.Ythnffjgbglncbaa
open Go.RowKit
set_option linter.unusedVariables false

set_option maxRecDepth 100000 in
set_option maxHeartbeats 4000000 in
theorem ZedSmalls_any {x : Int} {w : World} (hx : -9223372036854775808 ≤ x ∧ x ≤ 9223372036854775807) :
    Calls Try.prog 4 #[.int .i64 x] w fun e w' => e = .returned (.bool true) ∧ Below w.heap.size w w' := by
  have hb := Below.refl w.heap.size w
  obtain ⟨hx0, hx1⟩ := hx
  obtain ⟨e1, e2⟩ := smB_yes (X := x) ⟨hx0, hx1⟩
  have E1 := Lib.hid e1; have E2 := Lib.hid e2; clear e1 e2
  go_enter Try.func4, Try.ntmps4
  go_wp2_with fail
  with_reducible refine (Zshown_any _).mono ?_
  rintro e v1 ⟨rfl, hb1⟩
  replace hb := bthen hb hb1
  clear hb1
  go_wp2_with fail
  with_reducible refine (ZOf_any x hx0 hx1).mono ?_
  rintro e v2 ⟨A1, n1, c1, rfl, z1, hb1⟩
  replace hb := bthen hb hb1
  clear hb1
  go_wp2_with fail
  have hb1 := below_alloc v2 (.cells #[.bool (ngB x), .slice A1 n1 c1] 24)
  have x_a := Bx.new v2 (ngB x) A1 n1 c1
  have e_a : w.heap.size ≤ v2.heap.size := hb.size
  replace z1 := z1.keep hb1
  replace hb := bthen hb hb1
  clear hb1
  generalize v2.alloc (.cells #[.bool (ngB x), .slice A1 n1 c1] 24) = v3 at *
  have q_a0 := x_a.c0; have q_a1 := x_a.c1; have f_a0 := x_a.fr 0; have f_a1 := x_a.fr 1
  skip
  with_reducible refine (ZSmall_any z1.zr (by omega)).mono ?_
  rintro e v4 ⟨rfl, hb1⟩
  replace x_a := x_a.keep hb1
  replace z1 := z1.keep hb1
  replace hb := bthen hb hb1
  clear hb1
  replace q_a0 := x_a.c0; replace q_a1 := x_a.c1; replace f_a0 := x_a.fr 0; replace f_a1 := x_a.fr 1
  rw [E1.out, E2.out]
  go_wp2_with fail
  go_region_held3 (fun w' => w'.cell? ⟨v2.heap.size, 0, none⟩ = some (.bool (ngB x)) ∧ w'.cell? ⟨v2.heap.size, 1, none⟩ = some (.slice A1 n1 c1))
    (first | (with_reducible exact ⟨x_a.c0, x_a.c1⟩) | (with_reducible exact ⟨(x_a.aside (by omega)).c0, (x_a.aside (by omega)).c1⟩) | (with_reducible exact ⟨((x_a.aside (by omega)).aside (by omega)).c0, ((x_a.aside (by omega)).aside (by omega)).c1⟩) | go_keep)
    (first | (go_at_call 30; (with_reducible refine (ROf_any x hx0 hx1).mono ?_); rintro e v5 ⟨A2, n2, c2, rfl, z2, hb1⟩; replace hb1 := undrew hb1; replace x_a := x_a.keep hb1; replace z1 := z1.keep hb1; replace hb := bthen hb hb1; clear hb1; replace q_a0 := x_a.c0; replace q_a1 := x_a.c1; replace f_a0 := x_a.fr 0; replace f_a1 := x_a.fr 1) | (go_at_call 16; (with_reducible refine (Zequal_any z1 z2 rfl).mono ?_); rintro e v6 ⟨rfl, hb1⟩; replace x_a := x_a.keep hb1; replace z1 := z1.keep hb1; replace z2 := z2.keep hb1; replace hb := bthen hb hb1; clear hb1; replace q_a0 := x_a.c0; replace q_a1 := x_a.c1; replace f_a0 := x_a.fr 0; replace f_a1 := x_a.fr 1))
  go_wp2
  go_ret
  exact ⟨rfl, hb⟩

end Go.Proofs.Ythnffjgbglncbaa
