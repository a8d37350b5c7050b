/-
  Within a round: an append of a whole slice, a whole row stored. No program is named here.
-/
import Derived.Test.YtckaknaeddiphaaInvIn
import Derived.Test.YtckaknaeddiphaaBase
import Derived.Laws.Rows
import Derived.Laws.Tables
namespace Go.Proofs.Ytckaknaeddiphaa
open Go.RowKit
section
variable {F : Fence} {m : Nat} {P : Program} {E T : Nat} {ops : Array Oper} {rest : List Oper} {o : Oper} {a : Act} {w : World} {K : Act → World → Prop} {Q : Exit → Act → World → Prop}
/-- 'append(v, s...)': what it yields and leaves. -/
theorem run_append_list (rt : TypeId) (base : Nat) (ht : P.underlying T = some (.slice E)) (hi : Info64 P E) (v : Value) (xs : List Int) (hown : Own E w base v xs) (ao : Option Addr) (n c : Nat) (ys : List Int) (hr : Rd w ao n ys) (hlen : xs.length + n ≤ 4294967296) (hbase : base ≤ w.heap.size) :
    ∃ v' w', (Builtin.append_ #[T, T] rt #[v, .slice ao n c]).run P w = .ok v' w' ∧ Own E w' base v' (xs ++ ys) ∧ w.grownBy w' v.ownBlock := by
  obtain ⟨i0, hi, hz0, hz1, hz2⟩ := info_parts hi
  rcases ao with _ | ad
  · have hn : n = 0 := by
      rcases Nat.eq_zero_or_pos n with h0 | h0
      · exact h0
      · obtain ⟨_, _, e, _⟩ := hr.here h0; cases e
    subst hn
    have hys : ys = [] := List.length_eq_zero_iff.1 hr.len
    subst hys
    have hrun : (Builtin.append_ #[T, T] rt #[v, .slice none 0 c]).run P w = .ok v w := by
      have hown0 := hown
      rcases hown0.2 with ⟨rfl, _⟩ | ⟨g, cap, cur, rfl, _, _, hnc, _⟩
      · simp [Builtin.append_, run_underlying ht, sizeOf, typeInfo, hi, Builtin.lenOf, Builtin.firstCells]
      · simp [Builtin.append_, run_underlying ht, sizeOf, typeInfo, hi, Builtin.lenOf, Builtin.firstCells, hnc, storeCells]
    exact ⟨v, w, hrun, by simpa using hown, ⟨rfl, rfl, rfl, Nat.le_refl _, fun _ _ _ => rfl⟩⟩
  · have hcells : ∀ j u, (ys.map (Value.int .i64))[j]? = some u → w.cell? (ad.add j) = some u := by
      intro j u hu
      rw [List.getElem?_map, Option.map_eq_some_iff] at hu
      obtain ⟨y, hy, rfl⟩ := hu
      have hj : j < n := by have := (List.getElem?_eq_some_iff.1 hy).1; have := hr.len; omega
      obtain ⟨b, off, e, hc⟩ := hr.here (by omega)
      cases e
      rw [Addr.add_lit, hc j hj]
      simp [List.getD, hy]
    obtain ⟨v', w', hrun, r1, r2, -⟩ := run_append_own (P := P) w base T rt E i0 (.int .i64 0) 1 8 ht hi hz0 hz1 hz2 rfl (by decide) v xs.length _ hown ad n c (ys.map (Value.int .i64)) (by rw [List.length_map, hr.len, Nat.mul_one]) hcells (ints_oneCell _ _) (by unfold maxLen; omega) (by omega) hbase
    refine ⟨v', w', hrun, ?_, r2⟩
    unfold Own
    rw [List.length_append, hr.len, List.map_append]
    exact r1
theorem op_append_list (s x : Operand) (hop : o.op = .call { callee := .builtin .append, args := #[s, x], argTypes := #[T, T] }) (base : Nat) (ht : P.underlying T = some (.slice E)) (hi : Info64 P E)
    (v : Value) (xs : List Int) (hs : a.eval s = v) (hown : Own E w base v xs) (ao : Option Addr) (n c : Nat) (ys : List Int) (hx : a.eval x = .slice ao n c) (hr : Rd w ao n ys) (hlen : xs.length + n ≤ 4294967296) (hbase : base ≤ w.heap.size)
    (h : ∀ v' w', Own E w' base v' (xs ++ ys) → w.grownBy w' v.ownBlock → K (a.put o.dst v') w') : o.wpIn F m P a w K Q := by
  obtain ⟨v', w', hrun, r1, r2⟩ := run_append_list (P := P) (T := T) o.type base ht hi v xs hown ao n c ys hr hlen hbase
  unfold Oper.wpIn
  refine ⟨?_, ?_⟩
  · simp [Oper.about, hop, resolve, Target.leads, Sem.run_pure]
  · rw [Oper.semAt_plain F _ _ (by rw [hop]; intro c hc'; cases hc')]
    simp [execOp, hop, resolve, invoke, builtin, hs, hx, hrun, Result.andThen]
    exact h v' w' r1 r2
theorem listIn_append (hgd : o.guard = none) (s x : Operand) (hop : o.op = .call { callee := .builtin .append, args := #[s, x], argTypes := #[T, T] }) (base : Nat) (ht : P.underlying T = some (.slice E)) (hi : Info64 P E)
    (v : Value) (xs : List Int) (hs : a.eval s = v) (hown : Own E w base v xs) (ao : Option Addr) (n c : Nat) (ys : List Int) (hx : a.eval x = .slice ao n c) (hr : Rd w ao n ys) (hlen : xs.length + n ≤ 4294967296) (hbase : base ≤ w.heap.size)
    (h : ∀ v' w', Own E w' base v' (xs ++ ys) → w.grownBy w' v.ownBlock → wpListIn F m P ops Q rest (a.put o.dst v') w') : wpListIn F m P ops Q (o :: rest) a w :=
  wpListIn_plain hgd fun _ hK => op_append_list s x hop base ht hi v xs hs hown ao n c ys hx hr hlen hbase fun v' w' h1 h2 => hK _ _ (h v' w' h1 h2)
theorem op_store_row (ty : TypeId) (x y : Operand) (hop : o.op = .store ty x y) (g : Nat) (cells : Array Value) (hx : a.eval x = .pointer (some ⟨g, 0, none⟩)) (hy : a.eval y = .agg cells)
    (t : TypeId) (old : Array Value) (hg : w.heap[g]? = some (.cells old t (0, 0))) (hi : (P.info? ty).map (·.size) = some cells.size) (hold : old.size = cells.size) (h1 : cells.all (·.oneCell') = true)
    (h : K (a.put o.dst undef) (w.setRow g cells)) : o.wpIn F m P a w K Q := by
  unfold Oper.wpIn
  refine ⟨?_, ?_⟩
  · simp [Oper.about, hop]
  · rw [Oper.semAt_plain F _ _ (by rw [hop]; intro c hc'; cases hc')]
    unfold execOp
    simp only [hop, hx, hy, Instr.storeAt, Instr.sureAddr, Sem.run_bind, Sem.run_pure, Result.andThen_ok, run_storeVar_row w g t ty old cells hg hi hold h1]
    exact h
theorem listIn_store_row (hgd : o.guard = none) (ty : TypeId) (x y : Operand) (hop : o.op = .store ty x y) (g : Nat) (cells : Array Value) (hx : a.eval x = .pointer (some ⟨g, 0, none⟩)) (hy : a.eval y = .agg cells)
    (t : TypeId) (old : Array Value) (hg : w.heap[g]? = some (.cells old t (0, 0))) (hi : (P.info? ty).map (·.size) = some cells.size) (hold : old.size = cells.size) (h1 : cells.all (·.oneCell') = true)
    (h : wpListIn F m P ops Q rest (a.put o.dst undef) (w.setRow g cells)) : wpListIn F m P ops Q (o :: rest) a w :=
  wpListIn_plain hgd fun _ hK => op_store_row ty x y hop g cells hx hy t old hg hi hold h1 (hK _ _ h)
end
/-- A variable's box holds a slice of the call's own. -/
def HoldsL (E t base b : Nat) (W : World) (xs : List Int) : Prop := ∃ v, Boxed W b t v ∧ Own E W base v xs
theorem own_holds {β : Type} (E t base b B : Nat) (f : β → List Int) : OwnFrom B (fun (s : β) W => HoldsL E t base b W (f s)) := by
  rintro s X Y row ⟨v, hv, hr⟩ hg hrow
  refine ⟨v, hv.kept hg (fun e => ?_), hr.only hg ?_⟩
  · obtain ⟨_, o, ho, hc⟩ := hrow b e.symm
    rw [show X.heap[b]? = _ from hv] at ho; cases ho; cases hc
  · rcases hr.2 with ⟨rfl, _⟩ | ⟨g, cap, cur, rfl, _, hgb, _⟩
    · exact .inl rfl
    · refine .inr fun e' => ?_
      obtain ⟨_, o, ho, hc⟩ := hrow g (by simpa [Value.ownBlock] using e'.symm)
      rw [hgb] at ho; cases ho; cases hc
theorem HoldsL.still {E t base b : Nat} {A B : World} {xs : List Int} (h : HoldsL E t base b A xs) (hb : Below A.heap.size A B) : HoldsL E t base b B xs := by
  obtain ⟨v, hv, ho⟩ := h
  exact ⟨v, boxed_below hv hb, ho.below hb⟩
/-- What an append to the slice in a box leaves, when the box is written. -/
theorem HoldsL.push {E t base b : Nat} {A B : World} {v v' : Value} {xs ys : List Int} (hte : t ≠ E) (hbb : b < base) (hv : Boxed A b t v) (ho : Own E A base v xs) (hg : A.grownBy B v.ownBlock) (ho' : Own E B base v' ys) :
    Boxed B b t v ∧ HoldsL E t base b (B.setCell ⟨b, 0, none⟩ v') ys := by
  have h1 : Boxed B b t v := hv.kept hg (hv.not_row hte ho)
  refine ⟨h1, v', h1.set v', ho'.only (grownBy_setCell' B b v') ?_⟩
  cases hk : v'.ownBlock with
  | none => exact .inl rfl
  | some k => exact .inr (fun e => by have := (ho'.block k hk).1; cases e; omega)
end Go.Proofs.Ytckaknaeddiphaa
