/-
  A map from numbers to values: looked up with 'ok', entries taken out and put in. No program is named here.
-/
import Derived.Test.YtbbodgeoenjdkaaFnM
namespace Go.Proofs.Ytbbodgeoenjdkaa
open Go.RowKit Go.Maps

section
variable {P : Program} {K E T : Nat} (w : World) {ops : Array Oper} {rest : List Oper} {o : Oper} {a : Act} {Q : Exit → Act → World → Prop} {KK : Act → World → Prop}
theorem FunMap.look {b n : Nat} {f : Int → Option Value} (hown : FunMap P K w b n f) (c : Bool) (hK : P.underlying K = some (.int .i64)) (ht : P.underlying T = some (.map K E)) {zv : Value} (hz : (zeroValue E).run P w = .ok zv w) (k : Int) (hwf : wf64 k) :
    (Instr.lookup T (.map (some b)) (.int .i64 k) c).run P w = .ok (match f k with | some y => (if c then .tuple #[y, .bool true] else y) | none => (if c then .tuple #[zv, .bool false] else zv)) w := by
  obtain ⟨D, h1, ⟨-, h3⟩, h2⟩ := hown
  obtain ⟨es, clock, hb, F, _, rfl⟩ := h1
  have h3 := h3 k
  rcases Maps.fit_look c (int_keyed hK) ht hz hb F (keyOf_int_mk hK (WalkArith.wf_i64 hwf)) with ⟨hrun, _, hat⟩ | ⟨e0, y0, _, _, hrun, hRv, hat, _⟩
  · cases hf : f k with
    | none => rw [hrun]
    | some y =>
      have hv := h2 k y hf
      have h3 := (hv (.int .i64 0)).symm.trans (hat (.held (.int .i64 0)))
      have h4 := (hv (.int .i64 1)).symm.trans (hat (.held (.int .i64 1)))
      rw [h3] at h4
      injection h4 with h4
      injection h4 with h5 h6
      cases h6
  · unfold heldElem at hRv
    have e := congrArg Prod.fst (Option.some.inj hRv)
    cases hf : f k with
    | none =>
      rw [hf] at h3
      have h5 := atKey_of_not_has h3
      have h6 := (h5 (.lit (.int .i64 0))).symm.trans (hat _)
      rw [← e] at h6
      cases h6
    | some y =>
      have h7 := (h2 k y hf (.int .i64 0)).symm.trans (hat _)
      rw [← e] at h7
      injection h7 with h7
      rw [hrun, ← h7]
theorem lookHit (hgd : o.guard = none) (m x : Operand) (hop : o.op = Op.lookup T m x false) (hK : P.underlying K = some (.int .i64)) (ht : P.underlying T = some (.map K E)) {zv : Value} (hz : (zeroValue E).run P w = .ok zv w)
    (b n : Nat) (f : Int → Option Value) (hm : a.eval m = .map (some b)) (hown : FunMap P K w b n f) (k : Int) (hx : a.eval x = .int .i64 k) (hwf : wf64 k) (y : Value) (hf : f k = some y)
    (h : wpList P ops Q rest (a.put o.dst (y)) w) : wpList P ops Q (o :: rest) a w := by
  refine wpList_plain hgd fun K' hK' => ?_
  have hrun := hown.look w false hK ht hz k hwf
  simp only [hf] at hrun
  unfold Oper.wp
  simp [execOp, hop, hm, hx, hrun, Result.andThen]
  exact hK' _ _ h
theorem lookOk (hgd : o.guard = none) (m x : Operand) (hop : o.op = Op.lookup T m x true) (hK : P.underlying K = some (.int .i64)) (ht : P.underlying T = some (.map K E)) {zv : Value} (hz : (zeroValue E).run P w = .ok zv w)
    (b n : Nat) (f : Int → Option Value) (hm : a.eval m = .map (some b)) (hown : FunMap P K w b n f) (k : Int) (hx : a.eval x = .int .i64 k) (hwf : wf64 k) (y : Value) (hf : f k = some y)
    (h : wpList P ops Q rest (a.put o.dst (.tuple #[y, .bool true])) w) : wpList P ops Q (o :: rest) a w := by
  refine wpList_plain hgd fun K' hK' => ?_
  have hrun := hown.look w true hK ht hz k hwf
  simp only [hf] at hrun
  unfold Oper.wp
  simp [execOp, hop, hm, hx, hrun, Result.andThen]
  exact hK' _ _ h
theorem lookNo (hgd : o.guard = none) (m x : Operand) (hop : o.op = Op.lookup T m x true) (hK : P.underlying K = some (.int .i64)) (ht : P.underlying T = some (.map K E)) {zv : Value} (hz : (zeroValue E).run P w = .ok zv w)
    (b n : Nat) (f : Int → Option Value) (hm : a.eval m = .map (some b)) (hown : FunMap P K w b n f) (k : Int) (hx : a.eval x = .int .i64 k) (hwf : wf64 k) (hf : f k = none)
    (h : wpList P ops Q rest (a.put o.dst (.tuple #[zv, .bool false])) w) : wpList P ops Q (o :: rest) a w := by
  refine wpList_plain hgd fun K' hK' => ?_
  have hrun := hown.look w true hK ht hz k hwf
  simp only [hf] at hrun
  unfold Oper.wp
  simp [execOp, hop, hm, hx, hrun, Result.andThen]
  exact hK' _ _ h
theorem ownsMap_tight {H : Type} {R : Value → Option (DataW H × List MemPlace)} {b n : Nat} {D : DataW H} (h : w.ownsMap P K R b n D) : w.ownsMap P K R b (Maps.size D) D := by
  obtain ⟨es, clock, hb, F, hs, rfl⟩ := h
  exact ⟨es, clock, hb, F, by simp [Maps.size, length_sorted], rfl⟩
theorem FunMap.del {b n : Nat} {f : Int → Option Value} (hown : FunMap P K w b (n + 1) f) (hK : P.underlying K = some (.int .i64)) (ht : P.underlying T = some (.map K E)) (k : Int) (hwf : wf64 k) {y : Value} (hf : f k = some y) (ty : TypeId) :
    ∃ w', (Builtin.delete_ #[T, K] ty #[.map (some b), .int .i64 k]).run P w = .ok (.tuple #[]) w' ∧ FunMap P K w' b n (fun z => if z = k then none else f z) ∧ w.grownBy w' (some b) := by
  obtain ⟨D, h1, ⟨hsz, hhas⟩, h2⟩ := hown
  obtain ⟨w1, hrun, h3, h4⟩ := h1.drop (int_keyed hK) ht (keyOf_int_mk hK (WalkArith.wf_i64 hwf)) ty
  have hs := size_del (k := Lit.int .i64 k) (h1.tidy (int_keyed hK))
  rw [hhas k, hf, hsz] at hs
  simp only [Option.isSome_some, if_true] at hs
  have hs' : Maps.size (D.del (Lit.int .i64 k)) = n := by omega
  have h5 := ownsMap_tight w1 h3
  rw [hs'] at h5
  refine ⟨w1, hrun, ⟨_, h5, ⟨hs', fun z => ?_⟩, fun z y' hy' zz => ?_⟩, h4.grown⟩
  · by_cases e : z = k
    · subst e
      rw [has_del_same]; simp
    · have hne : (Lit.int .i64 z) ≠ (Lit.int .i64 k) := by simpa using e
      rw [has_del_other hne, hhas z]; simp [e]
  · by_cases e : z = k
    · subst e; simp at hy'
    · have hy' : f z = some y' := by simpa [e] using hy'
      have hne : (Lit.int .i64 z) ≠ (Lit.int .i64 k) := by simpa using e
      rw [atKey_del_other hne]
      exact h2 z y' hy' zz
/-- 'delete(m, k)' of a key that is there. -/
theorem delD (hgd : o.guard = none) (m x : Operand) (hop : o.op = Op.call { callee := Callee.builtin Builtin.delete, args := #[m, x], argTypes := #[T, K] }) (hK : P.underlying K = some (.int .i64)) (ht : P.underlying T = some (.map K E))
    (b n : Nat) (f : Int → Option Value) (hm : a.eval m = .map (some b)) (hown : FunMap P K w b (n + 1) f) (k : Int) (hx : a.eval x = .int .i64 k) (hwf : wf64 k) (y : Value) (hf : f k = some y)
    (h : ∀ w', FunMap P K w' b n (fun z => if z = k then none else f z) → w.grownBy w' (some b) → wpList P ops Q rest (a.put o.dst (.tuple #[])) w') : wpList P ops Q (o :: rest) a w := by
  refine wpList_plain hgd fun K' hK' => ?_
  obtain ⟨w', hrun, r1, r2⟩ := hown.del w hK ht k hwf hf o.type
  unfold Oper.wp
  simp [execOp, hop, resolve, invoke, builtin, hm, hx, hrun, Result.andThen]
  exact hK' _ _ (h w' r1 r2)
/-- 'm[k] = v' of a new key, the operation by itself. -/
theorem updD (m x v : Operand) (hop : o.op = Op.mapUpdate T m x v) (hK : P.underlying K = some (.int .i64)) (ht : P.underlying T = some (.map K E))
    (b n : Nat) (f : Int → Option Value) (hm : a.eval m = .map (some b)) (hown : FunMap P K w b n f) (hn : n ≤ 4294967296) (k : Int) (y : Value) (hx : a.eval x = .int .i64 k) (hv : a.eval v = y) (hwf : wf64 k) (hf : f k = none)
    (h : ∀ w', FunMap P K w' b (n + 1) (fun z => if z = k then some y else f z) → w.grownBy w' (some b) → KK (a.put o.dst undef) w') : o.wp P a w KK Q := by
  obtain ⟨w', hrun, r1, r2⟩ := insert_run w hK ht hown hn k y hwf hf
  unfold Oper.wp
  simp [execOp, hop, hm, hx, hv, hrun, Result.andThen]
  exact h w' r1 r2
end
end Go.Proofs.Ytbbodgeoenjdkaa
