/-
  Chapter 12: a map whose keys are slots and whose elements are descriptors.
-/
import Derived.Test.YtggnoeeaoligdaaSL
import Derived.Test.YtggnoeeaoligdaaSO
import Derived.Maps.OwnSet
import Derived.Maps.OwnOps
import Derived.DeepKeys4
import Derived.Carry
namespace Go.Proofs.Ytggnoeeaoligdaa
open Go.RowKit Go.Maps

def keyV (m r s : Int) : Value := .agg #[.int .i64 m, .int .i64 r, .int .i64 s]
def keyL (m r s : Int) : Lit := .string (keyBytes [.int .i64 m, .int .i64 r, .int .i64 s])
def wfk (m r s : Int) : Prop := (Lit.int .i64 m).wf = true ∧ (Lit.int .i64 r).wf = true ∧ (Lit.int .i64 s).wf = true
theorem keyS_laid : laidOutB Try.prog = true := by kernel_rfl
theorem keyS_law : Keyed Try.prog 113 := Keyed.of_law (deep_law_laid keyS_laid (m := 3) (by omega) (of_decide_eq_true (by kernel_rfl)) (by kernel_rfl) (by kernel_rfl))
theorem keyOf_slot {m r s : Int} (h : wfk m r s) : keyOf Try.prog 113 (keyV m r s) = some (keyL m r s) := by
  obtain ⟨h1, h2, h3⟩ := h
  have hu := Try.underlying113
  have hi := Try.underlying2
  have hk : Try.prog.keyType 113 = true := by kernel_rfl
  have hf : (keyV m r s).formed Try.prog 113 = true := by kernel_rfl
  have hl : ∀ d, Try.prog.keyLits (d + 1) 2 [.int .i64 m] = some [.int .i64 m] := fun d => by simp [Program.keyLits, hi, h1]
  have hl2 : ∀ d, Try.prog.keyLits (d + 1) 2 [.int .i64 r] = some [.int .i64 r] := fun d => by simp [Program.keyLits, hi, h2]
  have hl3 : ∀ d, Try.prog.keyLits (d + 1) 2 [.int .i64 s] = some [.int .i64 s] := fun d => by simp [Program.keyLits, hi, h3]
  have hc : Try.prog.cellsOf 2 = 1 := by kernel_rfl
  have hc3 : Try.prog.cellsOf 113 = 3 := by kernel_rfl
  have hs : ∃ q, Try.prog.types.size = q + 1 := ⟨Try.prog.types.size - 1, by have : 0 < Try.prog.types.size := of_decide_eq_true (by kernel_rfl)
                                                                             omega⟩
  obtain ⟨q, hq⟩ := hs
  unfold keyOf
  rw [hu]
  simp only [hk, hf, Bool.and_self, if_true, hq]
  have : Try.prog.keyLits (q + 1 + 1) 113 (keyV m r s).cells.toList = some [.int .i64 m, .int .i64 r, .int .i64 s] := by
    rw [show (keyV m r s).cells.toList = [.int .i64 m, .int .i64 r, .int .i64 s] from rfl]
    unfold Program.keyLits
    rw [hu]
    simp [hc, hc3, hl, hl2, hl3]
  rw [this]
  rfl
/-- An element is read as itself. -/
def selfElem (v : Value) : Option (DataW Value × List MemPlace) := some (.held v, [])
def dsZ : Value := dsVal Ds.zero
/-- Block b is a map of at most n entries; its keys are the slots that f sends somewhere, each with its descriptor. -/
def SlotMap (w : World) (b n : Nat) (f : Int → Int → Int → Option Ds) : Prop :=
  ∃ D : DataW Value, w.ownsMap Try.prog 113 selfElem b n D ∧ ∀ m r s, wfk m r s → Maps.has D (keyL m r s) = (f m r s).isSome ∧ ∀ d, f m r s = some d → D.atKey (keyL m r s) (.held dsZ) = .held (dsVal d)
theorem keyL_inj {m r s m' r' s' : Int} (h : wfk m r s) (h' : wfk m' r' s') (e : keyL m r s = keyL m' r' s') : m = m' ∧ r = r' ∧ s = s' := by
  have h1 := keyOf_slot h
  rw [e] at h1
  have := keyS_law.inj h1 (keyOf_slot h')
  unfold keyV at this
  simpa using this
section
variable {w w' : World} {b n : Nat} {f : Int → Int → Int → Option Ds}
theorem slotMap_made (w : World) : SlotMap (w.alloc (.map #[] 0)) w.heap.size 0 (fun _ _ _ => none) :=
  ⟨_, World.ownsMap_made w _ _ _, fun m r s _ => ⟨rfl, fun y h => by cases h⟩⟩
theorem SlotMap.kept {row : Option Nat} (h : SlotMap w b n f) (hg : w.grownBy w' row) (hne : some b ≠ row) : SlotMap w' b n f := by
  obtain ⟨D, h1, h2⟩ := h
  exact ⟨D, h1.kept hg hne, h2⟩
theorem SlotMap.below (h : SlotMap w b n f) (hb : Below w.heap.size w w') : SlotMap w' b n f := h.kept (row := none) ⟨hb.os, hb.tape, hb.output, hb.size, fun i hi _ => hb.block i hi⟩ (by simp)
theorem SlotMap.lt (h : SlotMap w b n f) : b < w.heap.size := by obtain ⟨D, h1, _⟩ := h; exact h1.lt
end
/-- 'make(map[slotKey]Descriptor, n)': the number is only a hint. -/
theorem makeSlotMap (q : IntKind) (x : Int) (w : World) :
    (Instr.makeMap 110 (some (.int q x))).run Try.prog w = .ok (.map (some w.heap.size)) (w.alloc (.map #[] 0)) := by
  simp [Instr.makeMap, run_underlying Try.underlying110, Result.andThen]; rfl
theorem zeroDs (w : World) : (zeroValue 36).run Try.prog w = .ok dsZ w := by kernel_rfl
section
variable (w : World) {ops : Array Oper} {rest : List Oper} {o : Oper} {a : Act} {Q : Exit → Act → World → Prop} {K : Act → World → Prop}
/-- 'd, ok := m[k]'. -/
theorem lookS_op (m x : Operand) (hop : o.op = Op.lookup 110 m x true) (b n : Nat) (f : Int → Int → Int → Option Ds) (hm : a.eval m = .map (some b)) (hown : SlotMap w b n f) (k1 k2 k3 : Int) (hx : a.eval x = keyV k1 k2 k3) (hwf : wfk k1 k2 k3)
    (h : K (a.put o.dst (.tuple #[dsVal ((f k1 k2 k3).getD Ds.zero), .bool (f k1 k2 k3).isSome])) w) : o.wp Try.prog a w K Q := by
  obtain ⟨D, h1, h2⟩ := hown
  obtain ⟨v, ps, hrun, hv⟩ := h1.look_ok keyS_law Try.underlying110 (zeroDs w) (zd := .held dsZ) (zp := []) rfl (keyOf_slot hwf)
  obtain ⟨h3, h4⟩ := h2 k1 k2 k3 hwf
  have hv2 : v = dsVal ((f k1 k2 k3).getD Ds.zero) := by
    unfold selfElem at hv
    have e := (Prod.mk.inj (Option.some.inj hv)).1
    rcases hf : f k1 k2 k3 with _ | d
    · rw [hf] at h3
      rw [atKey_of_not_has h3] at e
      cases e
      rfl
    · rw [h4 d hf] at e
      cases e
      rfl
  rw [h3, hv2] at hrun
  unfold Oper.wp
  simp [execOp, hop, hm, hx, hrun, Result.andThen]
  exact h
theorem lookS (hgd : o.guard = none) (m x : Operand) (hop : o.op = Op.lookup 110 m x true) (b n : Nat) (f : Int → Int → Int → Option Ds) (hm : a.eval m = .map (some b)) (hown : SlotMap w b n f) (k1 k2 k3 : Int) (hx : a.eval x = keyV k1 k2 k3) (hwf : wfk k1 k2 k3)
    (h : wpList Try.prog ops Q rest (a.put o.dst (.tuple #[dsVal ((f k1 k2 k3).getD Ds.zero), .bool (f k1 k2 k3).isSome])) w) : wpList Try.prog ops Q (o :: rest) a w :=
  wpList_plain hgd fun _ hK => lookS_op w m x hop b n f hm hown k1 k2 k3 hx hwf (hK _ _ h)
def updS (f : Int → Int → Int → Option Ds) (k1 k2 k3 : Int) (d : Ds) : Int → Int → Int → Option Ds := fun m r s => if m = k1 ∧ r = k2 ∧ s = k3 then some d else f m r s
/-- 'm[k] = d'. -/
theorem storeS_op (m x v : Operand) (hop : o.op = Op.mapUpdate 110 m x v) (b n : Nat) (f : Int → Int → Int → Option Ds) (hm : a.eval m = .map (some b)) (hown : SlotMap w b n f) (hn : n ≤ 4294967296) (k1 k2 k3 : Int) (d : Ds) (hx : a.eval x = keyV k1 k2 k3) (hv : a.eval v = dsVal d) (hwf : wfk k1 k2 k3)
    (h : ∀ w', SlotMap w' b (n + 1) (updS f k1 k2 k3 d) → w.grownBy w' (some b) → K (a.put o.dst undef) w') : o.wp Try.prog a w K Q := by
  obtain ⟨D, h1, h2⟩ := hown
  obtain ⟨w1, hrun, h3, h4⟩ := h1.store keyS_law Try.underlying110 (by unfold maxLen; omega) (keyOf_slot hwf) (show selfElem (dsVal d) = some (.held (dsVal d), []) from rfl)
  unfold Oper.wp
  simp [execOp, hop, hm, hx, hv, hrun, Result.andThen]
  refine h w1 ⟨_, h3, fun m' r' s' hw' => ?_⟩ h4.grown
  unfold updS
  by_cases e : m' = k1 ∧ r' = k2 ∧ s' = k3
  · rw [if_pos e]
    obtain ⟨rfl, rfl, rfl⟩ := e
    refine ⟨has_put_same h1.isMap (by trivial) _, fun y hy => ?_⟩
    rw [atKey_put_same h1.isMap (by trivial)]
    cases hy
    rfl
  · rw [if_neg e]
    have hne : keyL m' r' s' ≠ keyL k1 k2 k3 := fun e2 => e (keyL_inj hw' hwf e2)
    rw [has_put_other hne, atKey_put_other hne]
    exact h2 m' r' s' hw'
end
end Go.Proofs.Ytggnoeeaoligdaa
