/-
 point: judge.
-/
import Derived.Test.YtdonaominffpnaaGreatDoorEbox
import Derived.Test.YtdonaominffpnaaGreatDoorPscal
namespace Go.Proofs.YtdonaominffpnaaGreatDoor
set_option linter.unusedVariables false
open Go.RowKit
def Ox (w : World) (g : Nat) (cs : Array Value) (t : TypeId) : Prop := w.heap[g]? = some (.cells cs t (0, 0))
section
variable {w w' W v : World} {g h : Nat} {cs : Array Value} {t : TypeId} {c0 c1 c2 c3 c4 c5 c6 c7 c8 c9 c10 c11 c12 d0 d1 d2 d3 d4 d5 d6 d7 d8 d9 d10 d11 d12 : Value}
theorem Ox.of (h : w.heap[g]? = some (.cells cs t (0, 0))) : Ox w g cs t := h
theorem Ox.lt (h : Ox w g cs t) : g < w.heap.size := by
 rcases Nat.lt_or_ge g w.heap.size with hlt | hge
 ·exact hlt
 ·unfold Ox at h; rw [Array.getElem?_eq_none hge] at h; cases h
theorem Ox.cl {u : Value} (h : Ox w g cs t) (i : Nat) (e : cs[i]? = some u) : w.cell? ⟨g, i, none⟩ = some u := by rw [cell_of_row w g i _ _ (0, 0) h]; exact e
theorem Ox.fr (h : Ox w g cs t) (i : Nat) : w.frozen? ⟨g, i, none⟩ = false := by
 unfold Ox at h
 simp [World.frozen?, h]
instance : Mv (Ox v g cs t) v w (Ox w g cs t) := ⟨fun h hb => (hb.block g h.lt).trans h⟩
instance : Ms (Ox W h cs t) W v g (h ≠ g) (Ox v h cs t) := ⟨fun s hg x => (s.block h hg).trans x⟩
theorem Ox.al (h : Ox w g #[c0, c1, c2, c3, c4, c5, c6, c7, c8, c9, c10, c11, c12] t) : w.cell? ⟨g, 0, none⟩ = some c0 ∧ w.frozen? ⟨g, 0, none⟩ = false ∧ w.cell? ⟨g, 1, none⟩ = some c1 ∧ w.frozen? ⟨g, 1, none⟩ = false ∧ w.cell? ⟨g, 2, none⟩ = some c2 ∧ w.frozen? ⟨g, 2, none⟩ = false ∧ w.cell? ⟨g, 3, none⟩ = some c3 ∧ w.frozen? ⟨g, 3, none⟩ = false ∧ w.cell? ⟨g, 4, none⟩ = some c4 ∧ w.frozen? ⟨g, 4, none⟩ = false ∧ w.cell? ⟨g, 5, none⟩ = some c5 ∧ w.frozen? ⟨g, 5, none⟩ = false ∧ w.cell? ⟨g, 6, none⟩ = some c6 ∧ w.frozen? ⟨g, 6, none⟩ = false ∧ w.cell? ⟨g, 7, none⟩ = some c7 ∧ w.frozen? ⟨g, 7, none⟩ = false ∧ w.cell? ⟨g, 8, none⟩ = some c8 ∧ w.frozen? ⟨g, 8, none⟩ = false ∧ w.cell? ⟨g, 9, none⟩ = some c9 ∧ w.frozen? ⟨g, 9, none⟩ = false ∧ w.cell? ⟨g, 10, none⟩ = some c10 ∧ w.frozen? ⟨g, 10, none⟩ = false ∧ w.cell? ⟨g, 11, none⟩ = some c11 ∧ w.frozen? ⟨g, 11, none⟩ = false ∧ w.cell? ⟨g, 12, none⟩ = some c12 ∧ w.frozen? ⟨g, 12, none⟩ = false := ⟨h.cl 0 rfl, h.fr 0, h.cl 1 rfl, h.fr 1, h.cl 2 rfl, h.fr 2, h.cl 3 rfl, h.fr 3, h.cl 4 rfl, h.fr 4, h.cl 5 rfl, h.fr 5, h.cl 6 rfl, h.fr 6, h.cl 7 rfl, h.fr 7, h.cl 8 rfl, h.fr 8, h.cl 9 rfl, h.fr 9, h.cl 10 rfl, h.fr 10, h.cl 11 rfl, h.fr 11, h.cl 12 rfl, h.fr 12⟩
theorem Ox.alloc (h : Ox w g cs t) (o : Obj) : Ox (w.alloc o) g cs t := (Below.heap_alloc w o g h.lt).trans h
theorem Ox.st {F : World → Prop} (x : Ox W g #[.bool false, .slice none 0 0, .bool false, .slice none 0 0, .int .i64 0, .int .i64 0, .int .i64 0, .int .i64 0, .bool false, .slice none 0 0, .bool false, .slice none 0 0, .bool false] t) (h : ∀ v, Sto W g v → Ox v g #[d0, d1, d2, d3, d4, d5, d6, d7, d8, d9, d10, d11, d12] t → F v) : F (((((((((((((W.setCell ⟨g, 0, none⟩ d0).setCell ⟨g, 1, none⟩ d1).setCell ⟨g, 2, none⟩ d2).setCell ⟨g, 3, none⟩ d3).setCell ⟨g, 4, none⟩ d4).setCell ⟨g, 5, none⟩ d5).setCell ⟨g, 6, none⟩ d6).setCell ⟨g, 7, none⟩ d7).setCell ⟨g, 8, none⟩ d8).setCell ⟨g, 9, none⟩ d9).setCell ⟨g, 10, none⟩ d10).setCell ⟨g, 11, none⟩ d11).setCell ⟨g, 12, none⟩ d12) :=
 have N : Nl W g := nl_of x fun i y => by rcases i with _ | _ | _ | _ | _ | _ | _ | _ | _ | _ | _ | _ | _ | i <;> simp
 h _ ((((((((((((((Sto.refl W g).set N).set N).set N).set N).set N).set N).set N).set N).set N).set N).set N).set N).set N) (by unfold Ox at x ⊢; simp [World.setCell, Array.getElem?_modify, x])
end
end Go.Proofs.YtdonaominffpnaaGreatDoor
namespace Go.Proofs.YtdonaominffpnaaGreatDoor
set_option maxRecDepth 100000
set_option maxHeartbeats 4000000
set_option linter.unusedVariables false
open Go.RowKit
variable {b b2 b3 b4 : Bool} {A A2 A3 A4 : Option Addr} {n c n2 c2 n3 c3 n4 c4 j j2 : Nat} {X Y U V q e : Int} {w : World}
def JgPost (w : World) (X Y q K E S L M : Int) (t : Bool) (e : Ending) (w' : World) : Prop := ∃ A n c A2 n2 c2 A3 n3 c3 A4 n4 c4, e = .returned (.agg #[.bool (ngB X), .slice A n c, .bool (ngB Y), .slice A2 n2 c2, .int .i64 q, .int .i64 K, .int .i64 E, .int .i64 S, .bool (ngB L), .slice A3 n3 c3, .bool (ngB M), .slice A4 n4 c4, .bool t]) ∧ Zn w' A n c X 8 ∧ Zn w' A2 n2 c2 Y 8 ∧ Zn w' A3 n3 c3 L 240 ∧ Zn w' A4 n4 c4 M 240 ∧ Below w.heap.size w w'
def LkPost (w : World) (X Y q K E S L M : Int) (t : Bool) (e : Ending) (w' : World) : Prop := ∃ A n c A2 n2 c2 A3 n3 c3 A4 n4 c4, e = .returned (.tuple #[.agg #[.bool (ngB X), .slice A n c, .bool (ngB Y), .slice A2 n2 c2, .int .i64 q, .int .i64 K, .int .i64 E, .int .i64 S, .bool (ngB L), .slice A3 n3 c3, .bool (ngB M), .slice A4 n4 c4, .bool t], .int .i64 0]) ∧ Zn w' A n c X 8 ∧ Zn w' A2 n2 c2 Y 8 ∧ Zn w' A3 n3 c3 L 240 ∧ Zn w' A4 n4 c4 M 240 ∧ Below w.heap.size w w'
theorem judge_any (h : Zn w A n c X 8) (h2 : Zn w A2 n2 c2 Y 8) (hv : 0 ≤ q ∧ q ≤ 2048 ∧ X ≤ Y) (hz : zrB X Y = false) (r : Int) (hr : bl (nrI X Y).natAbs - 1 - q = r) (s : Nat) (hs : q - 53 + r = s) (hs2 : s ≤ 2048) (K m E : Int) (hK : -1000000000 ≤ K ∧ K ≤ 1000000000) (hm : 1 ≤ m ∧ m ≤ 128) (hE : r + K = E) (L M : Int) (hL : gaL X Y s = L ∧ gaM X Y s = M) (t : Bool) (ht : decide ((bl L.natAbs : Int) ≤ s - m) = t) :
  Calls Tryz.prog 51 #[.agg #[.bool (ngB X), .slice A n c, .bool (ngB Y), .slice A2 n2 c2, .int .i64 q], .int .i64 K, .int .i64 m] w (JgPost w X Y q K E s L M t) := by
 have hb9 : (bl (nrI X Y).natAbs : Int) ≤ 64 * 8 := by have a := bl_le (Bt.of_si h.zr.si); have b := bl_le (Bt.of_si h2.zr.si); unfold nrI; split <;> omega
 have HSC := Lib.hid (fun w A A2 n n2 c c2 (h : Zn w A n c X 8) (h2 : Zn w A2 n2 c2 Y 8) => Scale_some h.zr h2.zr hv hz r hr)
 have HGA := Lib.hid (fun w A A2 n n2 c c2 (h : Zn w A n c X 8) (h2 : Zn w A2 n2 c2 Y 8) => Gap_yes h.zr h2.zr hv s hs2)
 rw [hL.1, hL.2] at HGA; clear hL
 have hq : 0 ≤ q ∧ q ≤ 2048 := by omega
 have hr0 : -3000 ≤ r ∧ r ≤ 3000 := by omega
 clear hr hv hz hb9
 have w1 : IntKind.i64.wrap (q - 53) = q - 53 := wrap_in (by omega) (by omega)
 have w2 : IntKind.i64.wrap (q - 53 + r) = (s : Int) := by rw [wrap_in (by omega) (by omega)]; exact hs
 have w3 : IntKind.i64.wrap (r + K) = E := by rw [wrap_in (by omega) (by omega)]; exact hE
 have w4 : IntKind.i64.wrap ((s : Int) - m) = (s : Int) - m := wrap_in (by omega) (by omega)
 clear hs hE
 obtain ⟨β, hβ⟩ : ∃ C, bl L.natAbs = C := ⟨_, rfl⟩
 rw [hβ] at ht; have HB := Lib.hid hβ; clear hβ
 go_enter Tryz.func51, Tryz.ntmps51
 go_wp2_with fail
 refine al2c fun v1 hb x_v x_r => ?_
 replace x_v := Lx.of x_v; replace x_r := Ox.of x_r
 obtain ⟨h, h2⟩ := mv2 hb h h2
 have q_v := x_v.al
 have q_r := x_r.al
 clear q_r
 skip
 with_reducible refine (HSC.out _ _ _ _ _ _ _ h h2).mono ?_
 rintro e v2 ⟨rfl, hb1⟩
 obtain ⟨x_v, x_r, h, h2, hb⟩ := mv5 hb1 x_v x_r h h2 hb
 clear hb1
 replace q_v := x_v.al
 go_wp2_with fail
 with_reducible refine (HGA.out _ _ _ _ _ _ _ h h2).mono ?_
 rintro e v3 ⟨A3, n3, c3, A4, n4, c4, rfl, z3, z4, hb1⟩
 obtain ⟨x_v, x_r, h, h2, hb⟩ := mv5 hb1 x_v x_r h h2 hb
 clear hb1
 replace q_v := x_v.al
 have y_v := (((x_v.alloc (.cells #[.bool (ngB L), .slice A3 n3 c3] 24)).alloc (.cells #[.bool (ngB M), .slice A4 n4 c4] 24))).al
 go_wp2_with fail
 clear y_v
 have l_v_le := x_v.lt
 have l_r_le := x_r.lt
 have e_le : w.heap.size ≤ v3.heap.size := hb.size
 clear q_v
 refine al2c fun v4 hb1 x_le x_mo => ?_
 replace x_le := Bx.of x_le; replace x_mo := Bx.of x_mo
 obtain ⟨x_v, x_r, h, h2, z3, z4, hb⟩ := mv7 hb1 x_v x_r h h2 z3 z4 hb
 clear hb1
 have q_v := x_v.al
 have q_le := x_le.al
 have q_mo := x_mo.al
 skip
 with_reducible refine (ZBitLen_any z3.zr).mono ?_
 rintro e v5 ⟨rfl, hb1⟩
 obtain ⟨x_v, x_r, x_le, x_mo, h, h2, z3, z4, hb⟩ := mv9 hb1 x_v x_r x_le x_mo h h2 z3 z4 hb
 clear hb1
 replace q_v := x_v.al
 replace q_le := x_le.al
 replace q_mo := x_mo.al
 rw [HB.out]
 have q_r := x_r.al
 go_wp2
 clear q_v q_r q_le q_mo
 refine x_r.st fun v6 hs hx => ?_
 obtain ⟨x_v, x_le, x_mo, h, h2, z3, z4, hb⟩ := ms8 hs ⟨by omega, by omega, by omega, trivial, trivial, trivial, trivial, by omega⟩ x_v x_le x_mo h h2 z3 z4 hb
 replace x_r := hx; clear hx hs
 have q_v := x_v.al
 have q_r := x_r.al
 have q_le := x_le.al
 have q_mo := x_mo.al
 skip
 refine bodyPost_ret (v := .agg #[.bool (ngB X), .slice A n c, .bool (ngB Y), .slice A2 n2 c2, .int .i64 q, .int .i64 K, .int .i64 E, .int .i64 (s : Int), .bool (ngB L), .slice A3 n3 c3, .bool (ngB M), .slice A4 n4 c4, .bool t]) (by simp [results, Tryz.results51, go_sem, q_r]) rfl ?_
 exact ⟨_, _, _, _, _, _, _, _, _, _, _, _, rfl, h, h2, z3, z4, hb⟩
end Go.Proofs.YtdonaominffpnaaGreatDoor
