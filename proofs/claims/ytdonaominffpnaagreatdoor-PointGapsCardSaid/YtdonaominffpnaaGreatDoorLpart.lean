/-
 Stores into a part of a ball.
-/
import Derived.Test.YtdonaominffpnaaGreatDoorPd
import Derived.Test.YtdonaominffpnaaGreatDoorPe
import Derived.Test.YtdonaominffpnaaGreatDoorEbox
namespace Go.Proofs.YtdonaominffpnaaGreatDoor
variable {A : Option Addr} {W w : World} {b : Bool} {c n : Nat} {l : List Int}
set_option maxRecDepth 100000
set_option maxHeartbeats 2000000
set_option linter.unusedVariables false
section
open Go.RowKit
theorem wpo_all64 {o : Oper} {a : Act} {K : Act → World → Prop} {Q : Exit → Act → World → Prop} (s x : Operand)
  (hop : o.op = .call { callee := .builtin .append, args := #[s, x], argTypes := #[22, 22] }) (base : Nat) (v : Value) (hs : a.eval s = v) (hown : Ow W base v [])
  (A : Option Addr) (n c B : Nat) (m : List Int) (hx : a.eval x = .slice A n c) (hrd : Rd W B A n c m) (hn : n ≤ 1099511627776) (hbase : base ≤ W.heap.size)
  (hK : ∀ A' n' c' w', Rd w' w'.heap.size A' n' c' m → Below base W w' → K (a.put o.dst (.slice A' n' c')) w') : o.wp Tryz.prog a W K Q := by
 have hml := hrd.len
 have key : ∃ v' w', (Builtin.append_ #[22, 22] o.type #[v, .slice A n c]).run Tryz.prog W = .ok v' w' ∧ Ow w' base v' m ∧ Below base W w' := by
  rcases A with _ | ad
  ·have h0 : n = 0 := by
    rcases Nat.eq_zero_or_pos n with h0 | h0
    ·exact h0
    ·obtain ⟨_, _, h, _⟩ := hrd.at_ h0; cases h
   subst h0
   have : m = [] := List.eq_nil_of_length_eq_zero hml
   subst this
   exact ⟨v, W, run_append_zero hown o.type c, hown, Below.refl _ _⟩
  ·obtain ⟨i0, hi, hz0, hz1, hz2⟩ := info_parts Tryz.info64
   obtain ⟨v', w', hr, h2, h3, _, _⟩ := run_append_own_at (P := Tryz.prog) W base 22 o.type 36 i0 (.int .u64 0) 1 8 Tryz.underlying22 hi hz0 hz1 hz2 rfl (by decide) v _ _ hown ad n c (m.map (Value.int .u64)) (by simp [hml]) (by
    intro j u hj
    rw [List.getElem?_map] at hj
    by_cases hjl : j < m.length
    ·obtain ⟨b, of, e, hb, hc⟩ := hrd.at_ (by omega)
     injection e with e
     subst e
     rw [List.getElem?_eq_getElem hjl] at hj
     simp at hj
     subst hj
     rw [← hc j hjl]
     unfold Addr.add
     by_cases hj0 : j = 0
     ·subst hj0; simp
     ·rw [if_neg hj0]
    ·rw [List.getElem?_eq_none (by omega)] at hj
     simp at hj) (ints_oneCell _ _) (by unfold maxLen; simp; omega) (by simp; omega) hbase
   refine ⟨v', w', hr, ?_, ⟨h3.os, h3.tape, h3.output, h3.size, fun k hk => h3.block k (by omega) (fun e => by have := (World.ownsRow.lt hown k e.symm).1; omega)⟩⟩
   unfold Ow
   rw [hml]
   simpa using h2
 obtain ⟨v', w', hr, h1, h2⟩ := key
 obtain ⟨A', n', c', rfl, h3⟩ := h1.rd hrd.lim (by omega)
 unfold Oper.wp execOp
 simp only [hop, resolve, invoke, builtin, Sem.run_bind, Sem.run_pure, Result.andThen_ok, List.map_toArray, List.map_cons, List.map_nil, hs, hx, hr]
 exact hK _ _ _ _ h3 h2
theorem step_all64 {ops : Array Oper} {o : Oper} {a : Act} {K : Act → World → Prop} {Q : Exit → Act → World → Prop} {E : Prop} (hgd : o.guard = none) (s x : Operand)
  (hop : o.op = .call { callee := .builtin .append, args := #[s, x], argTypes := #[22, 22] }) (base : Nat) (v : Value) (hs : a.eval s = v) (hown : Ow W base v [])
  (A : Option Addr) (n c B : Nat) (m : List Int) (hx : a.eval x = .slice A n c) (hrd : Rd W B A n c m) (hn : n ≤ 1099511627776) (hbase : base ≤ W.heap.size)
  (hK : ∀ A' n' c' w', Rd w' w'.heap.size A' n' c' m → Below base W w' → K (a.put o.dst (.slice A' n' c')) w') :
  if Region.wanted o (yielded ops a.tmps) = true then Oper.wp Tryz.prog o a W K Q else E := by
 have hw : Region.wanted o (yielded ops a.tmps) = true := by simp [Region.wanted, hgd]
 rw [if_pos hw]
 exact wpo_all64 s x hop base v hs hown A n c B m hx hrd hn hbase hK
theorem Ow.drw {base : Nat} {v : Value} (h : Ow w base v l) : Ow w.drew base v l := h
def LiPost (w : World) (b : Bool) (l : List Int) (k : Nat) (e : Ending) (w' : World) : Prop := ∃ A n c, e = .returned (.agg #[.bool b, .slice A n c]) ∧ Rd w' w'.heap.size A n c (l.take k) ∧ n ≤ k ∧ Below w.heap.size w w'
theorem Lim_any (h : Rd w w.heap.size A n c l) (k : Nat) (hk : k ≤ 1000) :
  Calls Tryz.prog 9 #[.agg #[.bool b, .slice A n c], .int .i64 k] w (LiPost w b l k) := by
 have hcap := h.cap
 have hbig := h.big
 have HLEN := Lib.hid h.len
 by_cases hnk : k < n
 ·have hkc : k ≤ c := by omega
  have hlt : (k : Int) < n := by omega
  replace h := h.take (show k ≤ n by omega)
  go_enter Tryz.func9, Tryz.ntmps9
  go_wp2_with fail
  obtain ⟨hb, x_a, x_r⟩ := box2 w b A n c false none 0 0
  generalize (w.alloc (.cells #[.bool b, .slice A n c] 24)).alloc (.cells #[.bool false, .slice none 0 0] 24) = v1 at *
  replace h := h.go hb
  obtain ⟨q_a0, f_a0, q_a1, f_a1⟩ := x_a.al
  obtain ⟨q_r0, f_r0, q_r1, f_r1⟩ := x_r.al
  go_wp2_with fail
  have ho := Ow.empty v1 v1.heap.size (Nat.le_refl _)
  have lt_a := x_a.lt; have lt_r := x_r.lt
  have hb2 := below_alloc v1 (.cells #[] 36)
  have h3 := h.go hb2
  have x_a3 := x_a.keep hb2; have x_r3 := x_r.keep hb2
  go_region_held3 (fun w' => w'.cell? ⟨w.heap.size, 0, none⟩ = some (.bool b))
   (first | exact x_a.c0 | exact x_a3.c0 | exact x_a4.c0 | exact (x_a4.aside (by omega)).c0 | go_keep)
   ((refine step_all64 (by rfl) _ _ (by rfl) v1.heap.size _ (by rfl) ho.drw A k c _ (l.take k) (by rfl) h3.drw (by omega) (by simp) ?_; intro A1 n1 c1 v9 g1 hb1; have x_a4 := x_a3.drew.below hb1 lt_a; have x_r4 := x_r3.drew.below hb1 lt_r; have q_a0 := x_a4.c0; have q_r0 := x_r4.c0; have q_r1 := x_r4.c1; have f_r0 := x_r4.fr 0; have f_r1 := x_r4.fr 1))
  go_wp2
  have zz := x_r4.put b A1 n1 c1
  refine bodyPost_ret (v := .agg #[.bool b, .slice A1 n1 c1]) (by simp [results, Tryz.results9, go_sem, zz.c0, zz.c1]) rfl ?_
  exact ⟨_, _, _, rfl, g1.sput x_r4, by have := g1.len; rw [List.length_take] at this; omega, put_below ((below_drew (bthen hb hb2)).trans (hb1.mono hb.size)) (by omega) _ _⟩
 ·have hlt : ¬ (k : Int) < n := by omega
  rw [show l = l.take k from (List.take_of_length_le (by have := HLEN.out; omega)).symm] at h
  go_enter Tryz.func9, Tryz.ntmps9
  go_wp2_with fail
  obtain ⟨hb, x_a, x_r⟩ := box2 w b A n c false none 0 0
  generalize (w.alloc (.cells #[.bool b, .slice A n c] 24)).alloc (.cells #[.bool false, .slice none 0 0] 24) = v1 at *
  replace h := h.go hb
  obtain ⟨q_a0, f_a0, q_a1, f_a1⟩ := x_a.al
  obtain ⟨q_r0, f_r0, q_r1, f_r1⟩ := x_r.al
  go_wp2_with fail
  have ho := Ow.empty v1 v1.heap.size (Nat.le_refl _)
  have lt_a := x_a.lt; have lt_r := x_r.lt
  have hb2 := below_alloc v1 (.cells #[] 36)
  have h3 := h.go hb2
  have x_a3 := x_a.keep hb2; have x_r3 := x_r.keep hb2
  go_region_held3 (fun w' => w'.cell? ⟨w.heap.size, 0, none⟩ = some (.bool b))
   (first | exact x_a.c0 | exact x_a3.c0 | exact x_a4.c0 | exact (x_a4.aside (by omega)).c0 | go_keep)
   ((refine step_all64 (by rfl) _ _ (by rfl) v1.heap.size _ (by rfl) ho.drw A n c _ (l.take k) (by rfl) h3.drw (by omega) (by simp) ?_; intro A1 n1 c1 v9 g1 hb1; have x_a4 := x_a3.drew.below hb1 lt_a; have x_r4 := x_r3.drew.below hb1 lt_r; have q_a0 := x_a4.c0; have q_r0 := x_r4.c0; have q_r1 := x_r4.c1; have f_r0 := x_r4.fr 0; have f_r1 := x_r4.fr 1))
  go_wp2
  have zz := x_r4.put b A1 n1 c1
  refine bodyPost_ret (v := .agg #[.bool b, .slice A1 n1 c1]) (by simp [results, Tryz.results9, go_sem, zz.c0, zz.c1]) rfl ?_
  exact ⟨_, _, _, rfl, g1.sput x_r4, by have := g1.len; rw [List.length_take] at this; omega, put_below ((below_drew (bthen hb hb2)).trans (hb1.mono hb.size)) (by omega) _ _⟩
theorem Lim_at (h : Rd w w.heap.size A n c l) (k : Nat) (K : Int) (hK : K = (k : Int)) (hk : k ≤ 1000) :
  Calls Tryz.prog 9 #[.agg #[.bool b, .slice A n c], .int .i64 K] w (LiPost w b l k) := by
 subst hK; exact Lim_any h k hk
end
end Go.Proofs.YtdonaominffpnaaGreatDoor
namespace Go.Proofs.YtdonaominffpnaaGreatDoor
variable {A A' B B' : Option Addr} {W : World} {b b' p p' : Bool} {c c' d d' f g m m' n n' : Nat} {e e' : Int}
set_option linter.unusedVariables false
open Go.RowKit
theorem Lx.sta {F : World → Prop} (x : Lx W g b A n c p B m d e)
  (h : ∀ v, Sto W g v → Lx v g b' A' n' c' p B m d e → F v) : F ((W.setCell ⟨g, 0, none⟩ (.bool b')).setCell ⟨g, 1, none⟩ (.slice A' n' c')) :=
 have N : Nl W g := nl_of x fun i y => by rcases i with _ | _ | _ | _ | _ | i <;> simp
 h _ (((Sto.refl W g).set N).set N) (by unfold Lx at x ⊢; simp [World.setCell, Array.getElem?_modify, x])
theorem Lx.stac {P : Program} {a : Array Value} {Q : Ending → World → Prop} (x : Lx W g b A n c p B m d e)
  (h : ∀ v, Sto W g v → Lx v g b' A' n' c' p B m d e → Calls P f a v Q) : Calls P f a ((W.setCell ⟨g, 0, none⟩ (.bool b')).setCell ⟨g, 1, none⟩ (.slice A' n' c')) Q := x.sta (F := fun v => Calls P f a v Q) h
theorem Lx.stb {F : World → Prop} (x : Lx W g b A n c p B m d e)
  (h : ∀ v, Sto W g v → Lx v g b A n c p' B' m' d' e → F v) : F ((W.setCell ⟨g, 2, none⟩ (.bool p')).setCell ⟨g, 3, none⟩ (.slice B' m' d')) :=
 have N : Nl W g := nl_of x fun i y => by rcases i with _ | _ | _ | _ | _ | i <;> simp
 h _ (((Sto.refl W g).set N).set N) (by unfold Lx at x ⊢; simp [World.setCell, Array.getElem?_modify, x])
theorem Lx.stbc {P : Program} {a : Array Value} {Q : Ending → World → Prop} (x : Lx W g b A n c p B m d e)
  (h : ∀ v, Sto W g v → Lx v g b A n c p' B' m' d' e → Calls P f a v Q) : Calls P f a ((W.setCell ⟨g, 2, none⟩ (.bool p')).setCell ⟨g, 3, none⟩ (.slice B' m' d')) Q := x.stb (F := fun v => Calls P f a v Q) h
theorem Lx.stf {F : World → Prop} (x : Lx W g b A n c p B m d e)
  (h : ∀ v, Sto W g v → Lx v g b A n c p' B' m' d' e' → F v) : F (((W.setCell ⟨g, 2, none⟩ (.bool p')).setCell ⟨g, 3, none⟩ (.slice B' m' d')).setCell ⟨g, 4, none⟩ (.int .i64 e')) :=
 have N : Nl W g := nl_of x fun i y => by rcases i with _ | _ | _ | _ | _ | i <;> simp
 h _ ((((Sto.refl W g).set N).set N).set N) (by unfold Lx at x ⊢; simp [World.setCell, Array.getElem?_modify, x])
theorem Lx.stfc {P : Program} {a : Array Value} {Q : Ending → World → Prop} (x : Lx W g b A n c p B m d e)
  (h : ∀ v, Sto W g v → Lx v g b A n c p' B' m' d' e' → Calls P f a v Q) : Calls P f a (((W.setCell ⟨g, 2, none⟩ (.bool p')).setCell ⟨g, 3, none⟩ (.slice B' m' d')).setCell ⟨g, 4, none⟩ (.int .i64 e')) Q := x.stf (F := fun v => Calls P f a v Q) h
theorem Lx.ste {F : World → Prop} (x : Lx W g b A n c p B m d e)
  (h : ∀ v, Sto W g v → Lx v g b' A' n' c' p' B' m' d' e → F v) : F ((((W.setCell ⟨g, 0, none⟩ (.bool b')).setCell ⟨g, 1, none⟩ (.slice A' n' c')).setCell ⟨g, 2, none⟩ (.bool p')).setCell ⟨g, 3, none⟩ (.slice B' m' d')) :=
 have N : Nl W g := nl_of x fun i y => by rcases i with _ | _ | _ | _ | _ | i <;> simp
 h _ (((((Sto.refl W g).set N).set N).set N).set N) (by unfold Lx at x ⊢; simp [World.setCell, Array.getElem?_modify, x])
end Go.Proofs.YtdonaominffpnaaGreatDoor
