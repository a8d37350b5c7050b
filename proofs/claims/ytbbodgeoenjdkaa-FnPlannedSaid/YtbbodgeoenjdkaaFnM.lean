/-
  A map from numbers to values of any kind (functions) that a call makes: it holds the graph of a plain function. No program is named here.
-/
import Derived.Test.YtbbodgeoenjdkaaMpI
namespace Go.Proofs.Ytbbodgeoenjdkaa
open Go.RowKit Go.Maps

def heldElem (v : Value) : Option (DataW Value × List MemPlace) := some (.held v, [])
def wf64 (k : Int) : Prop := -9223372036854775808 ≤ k ∧ k ≤ 9223372036854775807
/-- Block b is a map of at most n entries; its keys are the numbers that f sends somewhere, each with its image. -/
def FunMap (P : Program) (K : Nat) (w : World) (b n : Nat) (f : Int → Option Value) : Prop :=
  ∃ D : DataW Value, w.ownsMap P K heldElem b n D ∧ (Maps.size D = n ∧ ∀ x : Int, Maps.has D (.int .i64 x) = (f x).isSome) ∧ ∀ x : Int, ∀ y, f x = some y → ∀ z : Value, D.atKey (.int .i64 x) (.held z) = .held y
section
variable {P : Program} {K : Nat} {w w' : World} {b n : Nat} {f : Int → Option Value}
theorem funMap_made (w : World) : FunMap P K (w.alloc (.map #[] 0)) w.heap.size 0 (fun _ => none) :=
  ⟨_, World.ownsMap_made w P K _, ⟨rfl, fun x => rfl⟩, fun x y h => by cases h⟩
theorem FunMap.kept {row : Option Nat} (h : FunMap P K w b n f) (hg : w.grownBy w' row) (hne : some b ≠ row) : FunMap P K w' b n f := by
  obtain ⟨D, h1, h2⟩ := h
  exact ⟨D, h1.kept hg hne, h2⟩
theorem FunMap.below (h : FunMap P K w b n f) (hb : Below w.heap.size w w') : FunMap P K w' b n f := h.kept (row := none) ⟨hb.os, hb.tape, hb.output, hb.size, fun i hi _ => hb.block i hi⟩ (by simp)
theorem FunMap.lt (h : FunMap P K w b n f) : b < w.heap.size := by obtain ⟨D, h1, _⟩ := h; exact h1.lt
theorem FunMap.more (h : FunMap P K w b n f) {f' : Int → Option Value} (hf : ∀ x, f' x = f x) : FunMap P K w b n f' := by
  have e : f' = f := funext hf
  rw [e]; exact h
end
/-- 'make(map[int64]f)', as a literal begins. -/
theorem run_makeMap_lit {P : Program} {T : Nat} (w : World) : (Instr.makeMap T none).run P w = .ok (.map (some w.heap.size)) (w.alloc (.map #[] 0)) := by
  simp [Instr.makeMap, Result.andThen]
section
variable {P : Program} {K E T : Nat} (w : World) {ops : Array Oper} {rest : List Oper} {o : Oper} {a : Act} {Q : Exit → Act → World → Prop} {KK : Act → World → Prop}
/-- 'm[x]' where the key is there. -/
theorem lookF_op (m x : Operand) (hop : o.op = Op.lookup T m x false) (hK : P.underlying K = some (.int .i64)) (ht : P.underlying T = some (.map K E)) {zv : Value} (hz : (zeroValue E).run P w = .ok zv w)
    (b n : Nat) (f : Int → Option Value) (hm : a.eval m = .map (some b)) (hown : FunMap P K w b n f) (k : Int) (y : Value) (hx : a.eval x = .int .i64 k) (hwf : wf64 k) (hf : f k = some y)
    (h : KK (a.put o.dst y) w) : o.wp P a w KK Q := by
  obtain ⟨D, h1, -, h2⟩ := hown
  obtain ⟨es, clock, hb, F, _, rfl⟩ := h1
  have hv := h2 k y hf
  have hrun : (Instr.lookup T (.map (some b)) (.int .i64 k) false).run P w = .ok y w := by
    rcases Maps.fit_look false (int_keyed hK) ht hz hb F (keyOf_int_mk hK (WalkArith.wf_i64 hwf)) with ⟨_, _, hat⟩ | ⟨e0, y0, _, _, hrun, hRv, hat, _⟩
    · have h3 := (hv (.int .i64 0)).symm.trans (hat (.held (.int .i64 0)))
      have h4 := (hv (.int .i64 1)).symm.trans (hat (.held (.int .i64 1)))
      rw [h3] at h4
      injection h4 with h4
      injection h4 with h5 h6
      cases h6
    · have h3 := hat (.held y)
      rw [hv] at h3
      unfold heldElem at hRv
      have e := congrArg Prod.fst (Option.some.inj hRv)
      rw [← h3] at e
      injection e with e
      rw [if_neg (by simp)] at hrun
      rw [hrun, e]
  unfold Oper.wp
  simp [execOp, hop, hm, hx, hrun, Result.andThen]
  exact h
theorem lookF (hgd : o.guard = none) (m x : Operand) (hop : o.op = Op.lookup T m x false) (hK : P.underlying K = some (.int .i64)) (ht : P.underlying T = some (.map K E)) {zv : Value} (hz : (zeroValue E).run P w = .ok zv w)
    (b n : Nat) (f : Int → Option Value) (hm : a.eval m = .map (some b)) (hown : FunMap P K w b n f) (k : Int) (y : Value) (hx : a.eval x = .int .i64 k) (hwf : wf64 k) (hf : f k = some y)
    (h : wpList P ops Q rest (a.put o.dst y) w) : wpList P ops Q (o :: rest) a w :=
  wpList_plain hgd fun _ hK2 => lookF_op w m x hop hK ht hz b n f hm hown k y hx hwf hf (hK2 _ _ h)
/-- An entry of a map literal. -/
theorem insert_run (hK : P.underlying K = some (.int .i64)) (ht : P.underlying T = some (.map K E)) {b n : Nat} {f : Int → Option Value} (hown : FunMap P K w b n f) (hn : n ≤ 4294967296) (k : Int) (y : Value) (hwf : wf64 k) (hfk : f k = none) :
    ∃ w', (Instr.mapUpdate T (.map (some b)) (.int .i64 k) y).run P w = .ok () w' ∧ FunMap P K w' b (n + 1) (fun z => if z = k then some y else f z) ∧ w.grownBy w' (some b) := by
  obtain ⟨D, h1, ⟨hsz, hhas⟩, h2⟩ := hown
  obtain ⟨w1, hrun, h3, h4⟩ := h1.store (int_keyed hK) ht (by unfold maxLen; omega) (keyOf_int_mk hK (WalkArith.wf_i64 hwf)) (show heldElem y = some (.held y, []) from rfl)
  refine ⟨w1, hrun, ⟨_, h3, ⟨?_, fun z => ?_⟩, fun z y' hy' zz => ?_⟩, h4.grown⟩
  · rw [size_put (h1.tidy (int_keyed hK)), hhas k, hfk, hsz]; rfl
  · by_cases e : z = k
    · subst e
      rw [has_put_same h1.isMap (by trivial)]; simp
    · have hne : (Lit.int .i64 z) ≠ (Lit.int .i64 k) := by simpa using e
      rw [has_put_other hne, hhas z]; simp [e]
  by_cases e : z = k
  · subst e
    rw [atKey_put_same h1.isMap (by trivial)]
    have : y = y' := by simpa using hy'
    rw [this]
  · have hy' : f z = some y' := by simpa [e] using hy'
    have hne : (Lit.int .i64 z) ≠ (Lit.int .i64 k) := by simpa using e
    rw [atKey_put_other hne]
    exact h2 z y' hy' zz
/-- 'len(m)'. -/
theorem lenF (hgd : o.guard = none) (m : Operand) (hop : o.op = Op.call { callee := Callee.builtin Builtin.len, args := #[m], argTypes := #[T] }) (ht : P.underlying T = some (.map K E))
    (b n : Nat) (f : Int → Option Value) (hm : a.eval m = .map (some b)) (hown : FunMap P K w b n f) (h : wpList P ops Q rest (a.put o.dst (.int .i64 (n : Int))) w) : wpList P ops Q (o :: rest) a w := by
  obtain ⟨D, h1, ⟨hsz, -⟩, -⟩ := hown
  refine wpList_len_own w hgd m T hop K E ht heldElem b n D hm h1 ?_
  rw [hsz]; exact h
end
end Go.Proofs.Ytbbodgeoenjdkaa
