/-
  What decimal digits are worth. Plain mathematics; nothing of the program.
-/
import Derived.Test.YtcoidcbbdibnaaaZdec
namespace Go.Proofs.Ytcoidcbbdibnaaa
set_option linter.unusedVariables false

/-- Is it a decimal digit? -/
def isD (c : UInt8) : Bool := decide (48 ≤ c.toNat ∧ c.toNat ≤ 57)
/-- The value of a text of digits. -/
def dv (l : List UInt8) : Nat := l.foldl (fun a c => a * 10 + (c.toNat - 48)) 0
theorem dv_nil : dv [] = 0 := rfl
theorem foldl_add (l : List UInt8) (a : Nat) : l.foldl (fun a c => a * 10 + (c.toNat - 48)) a = a * 10 ^ l.length + dv l := by
  unfold dv
  induction l generalizing a with
  | nil => simp
  | cons x l ih =>
    simp only [List.foldl_cons, List.length_cons]
    rw [ih, ih (0 * 10 + (x.toNat - 48)), Nat.pow_succ]
    rw [Nat.add_mul, Nat.zero_mul, Nat.zero_add, Nat.mul_assoc, Nat.mul_comm 10, Nat.add_assoc]
theorem dv_append (l m : List UInt8) : dv (l ++ m) = dv l * 10 ^ m.length + dv m := by
  conv => lhs; unfold dv
  rw [List.foldl_append, foldl_add]
  rfl
theorem dv_snoc (l : List UInt8) (c : UInt8) : dv (l ++ [c]) = dv l * 10 + (c.toNat - 48) := by
  rw [dv_append]; simp [dv]
theorem dv_cons (x : UInt8) (l : List UInt8) : dv (x :: l) = (x.toNat - 48) * 10 ^ l.length + dv l := by
  conv => lhs; unfold dv
  rw [List.foldl_cons, foldl_add, Nat.zero_mul, Nat.zero_add]
theorem dv_lt {l : List UInt8} (h : ∀ c ∈ l, isD c = true) : dv l < 10 ^ l.length := by
  induction l with
  | nil => simp [dv]
  | cons x l ih =>
    have h1 := ih (fun c hc => h c (by simp [hc]))
    have h2 := h x (by simp)
    unfold isD at h2
    have h3 := of_decide_eq_true h2
    rw [dv_cons, List.length_cons, Nat.pow_succ]
    have h4 : (x.toNat - 48) * 10 ^ l.length ≤ 9 * 10 ^ l.length := Nat.mul_le_mul_right _ (by omega)
    omega
theorem dv_zeros (k : Nat) (l : List UInt8) : dv (List.replicate k 48 ++ l) = dv l := by
  induction k with
  | zero => rfl
  | succ k ih =>
    rw [List.replicate_succ, List.cons_append]
    show List.foldl _ (0 * 10 + ((48 : UInt8).toNat - 48)) _ = _
    exact ih
theorem dv_strip (l : List UInt8) : dv (l.drop (lz l)) = dv l := by
  unfold lz
  induction l with
  | nil => rfl
  | cons x l ih =>
    by_cases hx : x = 48
    · subst hx
      simp only [List.takeWhile, beq_self_eq_true, List.length_cons, List.drop_succ_cons]
      rw [ih]
      show _ = List.foldl _ (0 * 10 + ((48 : UInt8).toNat - 48)) l
      rfl
    · have hb : (x == 48) = false := beq_eq_false_iff_ne.2 hx
      simp [List.takeWhile, hb]
theorem isD_digC {d : Nat} (h : d < 10) : isD (digC d) = true := by
  unfold isD; rw [digC_toNat h]; exact decide_eq_true (by omega)
theorem decL_digits (N : Nat) : ∀ c ∈ decL N, isD c = true := by
  induction N using Nat.strongRecOn with
  | ind N ih =>
    by_cases h : N < 10
    · rw [decL_small h]; intro c hc; simp at hc; subst hc; exact isD_digC h
    · rw [decL_big (by omega)]
      intro c hc
      rw [List.mem_append] at hc
      rcases hc with hc | hc
      · exact ih (N / 10) (by omega) c hc
      · simp at hc; subst hc; exact isD_digC (by omega)
theorem dv_decL (N : Nat) : dv (decL N) = N := by
  induction N using Nat.strongRecOn with
  | ind N ih =>
    by_cases h : N < 10
    · rw [decL_small h]; simp [dv, digC_toNat h]
    · rw [decL_big (by omega), dv_snoc, ih (N / 10) (by omega), digC_toNat (by omega)]; omega
/-- Is a text an integer's? -/
def okD (l : List UInt8) : Bool := !l.isEmpty && l.all isD
/-- A sign ahead, and what is behind it. -/
def sgB (l : List UInt8) : Bool := l.head? == some 45
def sgT (l : List UInt8) : List UInt8 := if sgB l then l.tail else l
end Go.Proofs.Ytcoidcbbdibnaaa
