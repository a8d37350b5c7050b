/-
  append on slices of the call's own, what it writes told exactly (numbers, entries); a block of another type is not the slice's. No program is named here.
-/
import Derived.Test.YtfmedckompdjgaaNv
namespace Go.Proofs.Ytfmedckompdjgaa
open Go.RowKit

section
variable {w w' : World} {E T base b : Nat} {v : Value} {xs : List Int} {t : List Nd} {x : Nd}
theorem ownsRow_ne {size n : Nat} {cs : List Value} (h : w.ownsRow base E size v n cs) {cur : Array Value} {fz : Nat × Nat} (hb : w.heap[b]? = some (.cells cur T fz)) (hne : T ≠ E) : some b ≠ v.ownBlock := by
  intro e
  rcases h.2 with ⟨rfl, -⟩ | ⟨g, cap, c, rfl, -, hg, -⟩
  · simp [Value.ownBlock] at e
  · simp only [Value.ownBlock, Option.some.injEq] at e
    subst e
    rw [hb] at hg
    cases hg
    exact hne rfl
theorem Own.ne_nd (h : Own E w base v xs) (hb : NdAt T w b x) (hne : T ≠ E) : some b ≠ v.ownBlock := ownsRow_ne h hb hne
/-- A slice literal of five numbers. -/
theorem rd_five (T : Nat) (x0 x1 x2 x3 x4 : Int) (w : World) : Rd (w.alloc (.cells #[.int .i64 x0, .int .i64 x1, .int .i64 x2, .int .i64 x3, .int .i64 x4] T)) (some ⟨w.heap.size, 0, none⟩) 5 [x0, x1, x2, x3, x4] := by
  refine ⟨rfl, fun _ => ⟨w.heap.size, 0, rfl, fun i hi => ?_⟩⟩
  rw [World.cell?_alloc_at _ _ _ _ (by simp)]
  match i, hi with
  | 0, _ => rfl
  | 1, _ => rfl
  | 2, _ => rfl
  | 3, _ => rfl
  | 4, _ => rfl
theorem rd_one (T : Nat) (x0 : Int) (w : World) : Rd (w.alloc (.cells #[.int .i64 x0] T)) (some ⟨w.heap.size, 0, none⟩) 1 [x0] := by
  refine ⟨rfl, fun _ => ⟨w.heap.size, 0, rfl, fun i hi => ?_⟩⟩
  rw [World.cell?_alloc_at _ _ _ _ (by simp)]
  match i, hi with
  | 0, _ => rfl
theorem rd_two (T : Nat) (x0 x1 : Int) (w : World) : Rd (w.alloc (.cells #[.int .i64 x0, .int .i64 x1] T)) (some ⟨w.heap.size, 0, none⟩) 2 [x0, x1] := by
  refine ⟨rfl, fun _ => ⟨w.heap.size, 0, rfl, fun i hi => ?_⟩⟩
  rw [World.cell?_alloc_at _ _ _ _ (by simp)]
  match i, hi with
  | 0, _ => rfl
  | 1, _ => rfl
theorem Own.one {E base : Nat} {w : World} (y : Int) (hE : base ≤ w.heap.size) : Own E (w.alloc (.cells #[.int .i64 y] E)) base (.slice (some ⟨w.heap.size, 0, none⟩) 1 1) [y] :=
  ⟨by simp, .inr ⟨w.heap.size, 1, #[.int .i64 y], by simp, hE, heap_alloc_new w _, by simp, by unfold maxLen; omega, by simp, by simp⟩⟩
end
section
variable {P : Program} {E T : Nat} (w : World) {ops : Array Oper} {rest : List Oper} {o : Oper} {a : Act} {Q : Exit → Act → World → Prop} {K : Act → World → Prop}
/-- 'append(out, xs...)' of at least one number: the operation by itself, and in a list of operations. -/
theorem app_op (s x : Operand) (ho : o.op = .call { callee := .builtin .append, args := #[s, x], argTypes := #[T, T] })
    (base : Nat) (ht : P.underlying T = some (.slice E)) (hi : Info64 P E)
    (v : Value) (xs : List Int) (hs : a.eval s = v) (hown : Own E w base v xs) (ad : Addr) (n c : Nat) (ys : List Int) (hx : a.eval x = .slice (some ad) n c) (hr : Rd w (some ad) n ys)
    (hlen : xs.length + n ≤ 4294967296) (hbase : base ≤ w.heap.size)
    (h : ∀ v' w', Own E w' base v' (xs ++ ys) → w.grownBy w' v.ownBlock → K (a.put o.dst v') w') : o.wp P a w K Q := by
  obtain ⟨i0, hi, hz0, hz1, hz2⟩ := info_parts hi
  have hcells : ∀ j u, (ys.map (Value.int .i64))[j]? = some u → w.cell? (ad.add j) = some u := by
    intro j u hu
    rw [List.getElem?_map, Option.map_eq_some_iff] at hu
    obtain ⟨y, hy, rfl⟩ := hu
    have hj : j < n := by have := (List.getElem?_eq_some_iff.1 hy).1; have := hr.len; omega
    obtain ⟨b, off, e, hc⟩ := hr.here (by omega)
    cases e
    rw [Addr.add_lit, hc j hj]
    simp [List.getD, hy]
  refine wp_append_own w s x T ho base E i0 (.int .i64 0) 1 8 ht hi hz0 hz1 hz2 rfl (by decide) v xs.length _ hs hown ad n c (ys.map (Value.int .i64)) hx (by rw [List.length_map, hr.len, Nat.mul_one]) hcells (ints_oneCell _ _) (by unfold maxLen; omega) (by omega) hbase ?_
  intro v' w' h1 h2 _
  refine h v' w' ?_ h2
  unfold Own
  rw [List.length_append, hr.len, List.map_append]
  exact h1
theorem app_list (hgd : o.guard = none) (s x : Operand) (ho : o.op = .call { callee := .builtin .append, args := #[s, x], argTypes := #[T, T] })
    (base : Nat) (ht : P.underlying T = some (.slice E)) (hi : Info64 P E)
    (v : Value) (xs : List Int) (hs : a.eval s = v) (hown : Own E w base v xs) (ad : Addr) (n c : Nat) (ys : List Int) (hx : a.eval x = .slice (some ad) n c) (hr : Rd w (some ad) n ys)
    (hlen : xs.length + n ≤ 4294967296) (hbase : base ≤ w.heap.size)
    (h : ∀ v' w', Own E w' base v' (xs ++ ys) → w.grownBy w' v.ownBlock → wpList P ops Q rest (a.put o.dst v') w') : wpList P ops Q (o :: rest) a w :=
  wpList_plain hgd fun _ hK => app_op w s x ho base ht hi v xs hs hown ad n c ys hx hr hlen hbase fun v' w' h1 h2 => hK _ _ (h v' w' h1 h2)
/-- 'append(out, x)' of one entry, the operation by itself. -/
theorem appN_op (s x : Operand) (ho : o.op = .call { callee := .builtin .append, args := #[s, x], argTypes := #[T, T] })
    (base : Nat) (ht : P.underlying T = some (.slice E)) (hi : InfoNd P E)
    (v : Value) (t : List Nd) (hs : a.eval s = v) (hown : OwnN E w base v t) (b : Nat) (y : Nd) (c : Nat) (hx : a.eval x = .slice (some ⟨b, 0, none⟩) 1 c) (hc : NdIn w b 0 y)
    (hlen : t.length ≤ 4294967296) (hbase : base ≤ w.heap.size)
    (h : ∀ v' w', OwnN E w' base v' (t ++ [y]) → w.grownBy w' v.ownBlock → K (a.put o.dst v') w') : o.wp P a w K Q := by
  obtain ⟨i0, hi, hz0, hz1, hz2⟩ := info_parts_n hi
  refine wp_append_own w s x T ho base E i0 (ndVal Nd.zero) 4 40 ht hi hz0 hz1 hz2 rfl (by decide) v t.length (t.flatMap ndCells) hs hown ⟨b, 0, none⟩ 1 c (ndCells y) hx rfl ?_ ?_ (by unfold maxLen; omega) (by omega) hbase ?_
  · intro j u hj
    match j, hj with
    | 0, hj => simp [ndCells] at hj; subst hj; simpa [Addr.add] using hc.c0
    | 1, hj => simp [ndCells] at hj; subst hj; simpa [Addr.add] using hc.c1
    | 2, hj => simp [ndCells] at hj; subst hj; simpa [Addr.add] using hc.c2
    | 3, hj => simp [ndCells] at hj; subst hj; simpa [Addr.add] using hc.c3
    | j + 4, hj => simp [ndCells] at hj
  · intro u hu; simp [ndCells] at hu; rcases hu with rfl | rfl | rfl | rfl <;> rfl
  · intro v' w' h1 h2 _
    refine h v' w' ?_ h2
    unfold OwnN
    rw [List.length_append, List.flatMap_append]
    simpa using h1
end

/-! ### the bytes of a table, entry by entry -/
def tabTo (t : List Nd) (k : Nat) : List Int := [(t.length : Int)] ++ (t.take k).flatMap ndBytes
theorem tabTo_zero (t : List Nd) : tabTo t 0 = [(t.length : Int)] := by simp [tabTo]
theorem tabTo_all (t : List Nd) : tabTo t t.length = tabBytes t := by unfold tabTo tabBytes; rw [List.take_length]
theorem tabTo_succ {t : List Nd} {k : Nat} (h : k < t.length) : tabTo t (k + 1) = tabTo t k ++ ndBytes (ndOf t k) := by
  unfold tabTo
  rw [ndOf_getD t k h, List.flatMap_append, List.append_assoc]
  simp
theorem tabTo_le {t : List Nd} {k : Nat} : (tabTo t k).length ≤ (tabBytes t).length := by
  have e : tabBytes t = tabTo t k ++ (t.drop k).flatMap ndBytes := by
    unfold tabTo tabBytes
    rw [List.append_assoc, ← List.flatMap_append, List.take_append_drop]
  rw [e, List.length_append]; omega
/-- The numbers of an entry lie where its bytes are bytes. -/
def okB (t : List Nd) : Prop := (tabBytes t).length ≤ 1000000 ∧ ∀ i, i < t.length → 0 ≤ (ndOf t i).drift ∧ (ndOf t i).drift ≤ 1000000
theorem okB_table {t : List Nd} (h : isTable t = true) : okB t := by
  refine ⟨by have := tabBytes_len h; omega, fun i hi => ?_⟩
  have := (isNd_iff.1 (table_nd h hi)).2.2
  omega
end Go.Proofs.Ytfmedckompdjgaa
