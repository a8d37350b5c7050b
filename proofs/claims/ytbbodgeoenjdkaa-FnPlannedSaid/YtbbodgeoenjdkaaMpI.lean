/-
  A map from numbers to numbers that a call makes: it holds the graph of a plain function. No program is named here.
-/
import Derived.Test.YtbbodgeoenjdkaaBase
import Derived.Maps.OwnSet
import Derived.Carry
namespace Go.Proofs.Ytbbodgeoenjdkaa
open Go.RowKit Go.Maps

/-- Block b is a map of at most n entries; its keys are the numbers that f sends somewhere, each with its image. -/
def MapIs (P : Program) (K E : Nat) (w : World) (b n : Nat) (f : Int → Option Int) : Prop :=
  ∃ D : DataW Unit, w.ownsMap P K (plainElem P E) b n D ∧ ∀ x : Int, Maps.has D (.int .i64 x) = (f x).isSome ∧ ∀ y, f x = some y → D.atKey (.int .i64 x) (.lit (.int .i64 0)) = .lit (.int .i64 y)

section
variable {P : Program} {K E : Nat} {w w' : World} {b n : Nat} {f : Int → Option Int}
theorem mapIs_made (w : World) : MapIs P K E (w.alloc (.map #[] 0)) w.heap.size 0 (fun _ => none) :=
  ⟨_, World.ownsMap_made w P K _, fun x => ⟨rfl, fun y h => by cases h⟩⟩
theorem MapIs.kept {row : Option Nat} (h : MapIs P K E w b n f) (hg : w.grownBy w' row) (hne : some b ≠ row) : MapIs P K E w' b n f := by
  obtain ⟨D, h1, h2⟩ := h
  exact ⟨D, h1.kept hg hne, h2⟩
theorem MapIs.below (h : MapIs P K E w b n f) (hb : Below w.heap.size w w') : MapIs P K E w' b n f := h.kept (row := none) ⟨hb.os, hb.tape, hb.output, hb.size, fun i hi _ => hb.block i hi⟩ (by simp)
theorem MapIs.lt (h : MapIs P K E w b n f) : b < w.heap.size := by obtain ⟨D, h1, _⟩ := h; exact h1.lt
theorem MapIs.same (h : MapIs P K E w b n f) {f' : Int → Option Int} (e : f = f') : MapIs P K E w b n f' := e ▸ h
end

/-- 'make(map[int64]int64, n)': the number is only a hint. -/
theorem run_makeMap_hint {P : Program} {T K E : Nat} (ht : P.underlying T = some (.map K E)) (q : IntKind) (x : Int) (w : World) :
    (Instr.makeMap T (some (.int q x))).run P w = .ok (.map (some w.heap.size)) (w.alloc (.map #[] 0)) := by
  simp [Instr.makeMap, run_underlying ht, Result.andThen]; rfl

section
variable {P : Program} {K E T : Nat} (w : World) {ops : Array Oper} {rest : List Oper} {o : Oper} {a : Act} {Q : Exit → Act → World → Prop}
/-- 'v, ok := m[x]' where the key is there. -/
theorem lookup_hit (hgd : o.guard = none) (m x : Operand) (hop : o.op = Op.lookup T m x true) (hK : P.underlying K = some (.int .i64)) (hE : P.underlying E = some (.int .i64)) (ht : P.underlying T = some (.map K E)) (hz : (zeroValue E).run P w = .ok (.int .i64 0) w)
    (b n : Nat) (f : Int → Option Int) (hm : a.eval m = .map (some b)) (hown : MapIs P K E w b n f) (k y : Int) (hx : a.eval x = .int .i64 k) (hwf : -9223372036854775808 ≤ k ∧ k ≤ 9223372036854775807) (hf : f k = some y)
    (h : wpList P ops Q rest (a.put o.dst (.tuple #[.int .i64 y, .bool true])) w) : wpList P ops Q (o :: rest) a w := by
  obtain ⟨D, h1, h2⟩ := hown
  refine wpList_lookup_own_ok_int w hgd m x T hop K E .i64 (int_keyed hK) ht hE hz b n D hm h1 _ _ hx (keyOf_int_mk hK (WalkArith.wf_i64 hwf)) ?_
  intro c hc _
  obtain ⟨h3, h4⟩ := h2 k
  rw [h4 y hf] at hc
  rw [h3, hf]
  simp only [Option.isSome_some]
  have : y = c := by simpa using hc
  rw [← this]; exact h
/-- .. where it is not. -/
theorem lookup_miss (hgd : o.guard = none) (m x : Operand) (hop : o.op = Op.lookup T m x true) (hK : P.underlying K = some (.int .i64)) (hE : P.underlying E = some (.int .i64)) (ht : P.underlying T = some (.map K E)) (hz : (zeroValue E).run P w = .ok (.int .i64 0) w)
    (b n : Nat) (f : Int → Option Int) (hm : a.eval m = .map (some b)) (hown : MapIs P K E w b n f) (k : Int) (hx : a.eval x = .int .i64 k) (hwf : -9223372036854775808 ≤ k ∧ k ≤ 9223372036854775807) (hf : f k = none)
    (h : wpList P ops Q rest (a.put o.dst (.tuple #[.int .i64 0, .bool false])) w) : wpList P ops Q (o :: rest) a w := by
  obtain ⟨D, h1, h2⟩ := hown
  refine wpList_lookup_own_ok_int w hgd m x T hop K E .i64 (int_keyed hK) ht hE hz b n D hm h1 _ _ hx (keyOf_int_mk hK (WalkArith.wf_i64 hwf)) ?_
  intro c hc _
  obtain ⟨h3, h4⟩ := h2 k
  rw [hf] at h3
  rw [atKey_of_not_has h3] at hc
  rw [h3]
  simp only [Option.isSome_none]
  have : (0 : Int) = c := by simpa using hc
  rw [← this]; exact h
/-- 'm[k] = y'. -/
theorem store_new (hgd : o.guard = none) (m x v : Operand) (hop : o.op = Op.mapUpdate T m x v) (hK : P.underlying K = some (.int .i64)) (hE : P.underlying E = some (.int .i64)) (ht : P.underlying T = some (.map K E))
    (b n : Nat) (f : Int → Option Int) (hm : a.eval m = .map (some b)) (hown : MapIs P K E w b n f) (hn : n ≤ 4294967296) (k y : Int) (hx : a.eval x = .int .i64 k) (hv : a.eval v = .int .i64 y) (hwf : -9223372036854775808 ≤ k ∧ k ≤ 9223372036854775807) (hwy : -9223372036854775808 ≤ y ∧ y ≤ 9223372036854775807)
    (h : ∀ w', MapIs P K E w' b (n + 1) (fun z => if z = k then some y else f z) → w.grownBy w' (some b) → wpList P ops Q rest (a.put o.dst undef) w') : wpList P ops Q (o :: rest) a w := by
  obtain ⟨D, h1, h2⟩ := hown
  refine wpList_mapUpdate_own w hgd m x v T hop K E (int_keyed hK) ht (plainElem P E) b n D hm h1 (by unfold maxLen; omega) _ _ _ hx hv (keyOf_int_mk hK (WalkArith.wf_i64 hwf)) (.lit (.int .i64 y)) [] (plainElem_int hE (WalkArith.wf_i64 hwy)) ?_
  intro w' h3 h4
  refine h w' ⟨_, h3, fun z => ?_⟩ h4
  by_cases e : z = k
  · subst e
    simp only [if_true]
    refine ⟨has_put_same h1.isMap (by trivial) _, fun y' hy' => ?_⟩
    rw [atKey_put_same h1.isMap (by trivial)]
    have : y = y' := by simpa using hy'
    rw [this]
  · simp only [if_neg e]
    have hne : (Lit.int .i64 z) ≠ (Lit.int .i64 k) := by simpa using e
    rw [has_put_other hne, atKey_put_other hne]
    exact h2 z
end
end Go.Proofs.Ytbbodgeoenjdkaa
