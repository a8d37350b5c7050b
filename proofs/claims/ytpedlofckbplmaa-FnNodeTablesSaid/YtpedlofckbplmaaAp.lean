/-
  append on slices of the call's own, what it writes told exactly (numbers, entries); a block of another type is not the slice's. No program is named here.
-/
import Derived.Test.YtpedlofckbplmaaNv
namespace Go.Proofs.Ytpedlofckbplmaa
open Go.RowKit

section
variable {P : Program} {E T : Nat} (w : World) {ops : Array Oper} {rest : List Oper} {o : Oper} {a : Act} {Q : Exit → Act → World → Prop} {K : Act → World → Prop}
/-- 'append(out, x)' of one entry, the operation by itself. -/
theorem appN_op (s x : Operand) (ho : o.op = .call { callee := .builtin .append, args := #[s, x], argTypes := #[T, T] })
    (base : Nat) (ht : P.underlying T = some (.slice E)) (hi : InfoNd P E)
    (v : Value) (t : List Nd) (hs : a.eval s = v) (hown : OwnN E w base v t) (b : Nat) (y : Nd) (c : Nat) (hx : a.eval x = .slice (some ⟨b, 0, none⟩) 1 c) (hc : NdIn w b 0 y)
    (hlen : t.length ≤ 4294967296) (hbase : base ≤ w.heap.size)
    (h : ∀ v' w', OwnN E w' base v' (t ++ [y]) → w.grownBy w' v.ownBlock → K (a.put o.dst v') w') : o.wp P a w K Q := by
  obtain ⟨i0, hi, hz0, hz1, hz2⟩ := info_parts_n hi
  refine wp_append_own w s x T ho base E i0 (ndVal Nd.zero) 4 40 ht hi hz0 hz1 hz2 rfl (by decide) v t.length (t.flatMap ndCells) hs hown ⟨b, 0, none⟩ 1 c (ndCells y) hx rfl ?_ ?_ (by unfold maxLen; omega) (by omega) hbase ?_
  · intro j u hj
    match j, hj with
    | 0, hj => simp [ndCells] at hj; subst hj; simpa [Addr.add] using hc.c0
    | 1, hj => simp [ndCells] at hj; subst hj; simpa [Addr.add] using hc.c1
    | 2, hj => simp [ndCells] at hj; subst hj; simpa [Addr.add] using hc.c2
    | 3, hj => simp [ndCells] at hj; subst hj; simpa [Addr.add] using hc.c3
    | j + 4, hj => simp [ndCells] at hj
  · intro u hu; simp [ndCells] at hu; rcases hu with rfl | rfl | rfl | rfl <;> rfl
  · intro v' w' h1 h2 _
    refine h v' w' ?_ h2
    unfold OwnN
    rw [List.length_append, List.flatMap_append]
    simpa using h1
end

/-! ### the bytes of a table, entry by entry -/
def tabToN (t : List Nd) (k : Nat) : List Int := [(t.length : Int)] ++ (t.take k).flatMap ndBytes
theorem tabToN_zero (t : List Nd) : tabToN t 0 = [(t.length : Int)] := by simp [tabToN]
theorem tabToN_all (t : List Nd) : tabToN t t.length = tabBytes t := by unfold tabToN tabBytes; rw [List.take_length]
theorem tabToN_succ {t : List Nd} {k : Nat} (h : k < t.length) : tabToN t (k + 1) = tabToN t k ++ ndBytes (ndOf t k) := by
  unfold tabToN
  rw [ndOf_getD t k h, List.flatMap_append, List.append_assoc]
  simp
theorem tabToN_le {t : List Nd} {k : Nat} : (tabToN t k).length ≤ (tabBytes t).length := by
  have e : tabBytes t = tabToN t k ++ (t.drop k).flatMap ndBytes := by
    unfold tabToN tabBytes
    rw [List.append_assoc, ← List.flatMap_append, List.take_append_drop]
  rw [e, List.length_append]; omega
/-- The numbers of an entry lie where its bytes are bytes. -/
def okB (t : List Nd) : Prop := (tabBytes t).length ≤ 1000000 ∧ ∀ i, i < t.length → 0 ≤ (ndOf t i).drift ∧ (ndOf t i).drift ≤ 1000000
theorem okB_table {t : List Nd} (h : isTable t = true) : okB t := by
  refine ⟨by have := tabBytes_len h; omega, fun i hi => ?_⟩
  have := (isNd_iff.1 (table_nd h hi)).2.2
  omega
end Go.Proofs.Ytpedlofckbplmaa
