/-
  A map of numbers that is cleared, and looked up without a second answer. No program is named here.
-/
import Derived.Test.YtfmedckompdjgaaMpI
import Derived.Test.YtfmedckompdjgaaHl
import Derived.Test.YtfmedckompdjgaaMw
import Derived.Test.YtfmedckompdjgaaMd2
namespace Go.Proofs.Ytfmedckompdjgaa
open Go.RowKit Go.Maps Go.MapKept Go.ChangeMaps

section
variable {P : Program} {K E T : Nat} {w w' : World} {b n : Nat} {f : Int → Option Int}
/-- Where a map lies, no cell does. -/
theorem MapIs.no_cell (h : MapIs P K E w b n f) {a : Addr} {v : Value} (hc : w.cell? a = some v) : a.block ≠ b := by
  rintro rfl
  obtain ⟨D, ⟨es, clock, hb, -⟩, -⟩ := h
  simp [World.cell?, hb] at hc
theorem MapIs.low (h : MapIs P K E w b n f) {B : Nat} (hb : Below B w w') (hlt : b < B) : MapIs P K E w' b n f := by
  obtain ⟨D, ⟨es, clock, h1, r⟩, h2⟩ := h
  exact ⟨D, ⟨es, clock, (hb.block b hlt).trans h1, r⟩, h2⟩
/-- The map is written: what reads elsewhere reads as before. -/
theorem MapIs.rd (h : MapIs P K E w b n f) (hg : w.grownBy w' (some b)) {ao : Option Addr} {m : Nat} {xs : List Int} (hr : Rd w ao m xs) : Rd w' ao m xs :=
  ⟨hr.len, fun h0 => by
    obtain ⟨k, off, e, hc⟩ := hr.here h0
    exact ⟨k, off, e, fun i hi => hg.cell (hc i hi) (fun e2 => h.no_cell (hc i hi) (Option.some.inj e2))⟩⟩
theorem MapIs.mcIn (h : MapIs P K E w b n f) (hg : w.grownBy w' (some b)) {k off : Nat} {c : Mc} (hc : McIn w k off c) : McIn w' k off c :=
  hc.grown hg (fun e => h.no_cell hc.c0 (Option.some.inj e))
theorem MapIs.rdM (h : MapIs P K E w b n f) (hg : w.grownBy w' (some b)) {ao : Option Addr} {m : Nat} {cs : List Mc} (hr : RdM w ao m cs) : RdM w' ao m cs :=
  ⟨hr.len, fun h0 => by
    obtain ⟨k, off, e, hc⟩ := hr.here h0
    exact ⟨k, off, e, fun i hi => h.mcIn hg (hc i hi)⟩, fun c hc => ⟨h.rd hg (hr.next c hc).rd, (hr.next c hc).le, (hr.next c hc).cap⟩⟩
end
section
variable {P : Program} {K E T : Nat} (w : World) {ops : Array Oper} {rest : List Oper} {o : Oper} {a : Act} {Q : Exit → Act → World → Prop}
/-- 'clear(m)'. -/
theorem clear_map (hgd : o.guard = none) (m : Operand) (hop : o.op = Op.call { callee := Callee.builtin Builtin.clear, args := #[m], argTypes := #[T] }) (ht : P.underlying T = some (.map K E))
    (b n : Nat) (f : Int → Option Int) (hm : a.eval m = .map (some b)) (hown : MapIs P K E w b n f)
    (h : ∀ w', MapIs P K E w' b 0 (fun _ => none) → w.grownBy w' (some b) → wpList P ops Q rest (a.put o.dst (.tuple #[])) w') : wpList P ops Q (o :: rest) a w := by
  obtain ⟨D, ⟨es, clock, hb, F, hs, hD⟩, h2⟩ := hown
  have hrun : ∀ ty, (Builtin.clear_ #[T] ty #[.map (some b)]).run P w = .ok (.tuple #[]) (setBlock w b (.map #[] clock)) := fun ty => by
    simp [Builtin.clear_, run_underlying ht, MapKept.run_getObj_map hb, MapKept.run_setObj_map _ hb, Result.andThen, setBlock]
  refine wpList_plain hgd fun K' hK' => ?_
  unfold Oper.wp
  simp [execOp, hop, resolve, invoke, builtin, hm, hrun, Result.andThen]
  exact hK' _ _ (h _ ⟨_, ⟨#[], clock, heap_setBlock_same hb _, ⟨by simp, stamped_empty clock, by simp⟩, Nat.le_refl _, rfl⟩, fun x => ⟨rfl, fun y h => by cases h⟩⟩ ⟨rfl, rfl, rfl, by simp [setBlock], fun i _ hi => heap_setBlock_other hb _ (fun e => hi (by rw [e]))⟩)
/-- 'm[x]'. -/
theorem lookup_run (hK : P.underlying K = some (.int .i64)) (hE : P.underlying E = some (.int .i64)) (ht : P.underlying T = some (.map K E)) (hz : (zeroValue E).run P w = .ok (.int .i64 0) w)
    {b n : Nat} {f : Int → Option Int} (hown : MapIs P K E w b n f) (k : Int) (hwf : -9223372036854775808 ≤ k ∧ k ≤ 9223372036854775807) :
    (Instr.lookup T (.map (some b)) (.int .i64 k) false).run P w = .ok (.int .i64 (valf f k)) w := by
  obtain ⟨D, h1, h2⟩ := hown
  obtain ⟨c, hrun, hat, -⟩ := h1.lookup_int (int_keyed hK) ht hE hz (keyOf_int_mk hK (WalkArith.wf_i64 hwf))
  obtain ⟨h3, h4⟩ := h2 k
  have : valf f k = c := by
    unfold valf
    rcases hf : f k with _ | y
    · rw [hf] at h3
      rw [atKey_of_not_has h3] at hat
      simpa using hat
    · rw [h4 y hf] at hat
      simpa using hat
  rw [this]
  exact hrun
theorem lookup_val (hgd : o.guard = none) (m x : Operand) (hop : o.op = Op.lookup T m x false) (hK : P.underlying K = some (.int .i64)) (hE : P.underlying E = some (.int .i64)) (ht : P.underlying T = some (.map K E)) (hz : (zeroValue E).run P w = .ok (.int .i64 0) w)
    (b n : Nat) (f : Int → Option Int) (hm : a.eval m = .map (some b)) (hown : MapIs P K E w b n f) (k : Int) (hx : a.eval x = .int .i64 k) (hwf : -9223372036854775808 ≤ k ∧ k ≤ 9223372036854775807) (y : Int) (hy : valf f k = y)
    (h : wpList P ops Q rest (a.put o.dst (.int .i64 y)) w) : wpList P ops Q (o :: rest) a w := by
  have hrun := lookup_run w hK hE ht hz hown k hwf
  rw [hy] at hrun
  refine wpList_plain hgd fun K' hK' => ?_
  unfold Oper.wp
  simp [execOp, hop, hm, hx, hrun, Result.andThen]
  exact hK' _ _ h
end
end Go.Proofs.Ytfmedckompdjgaa
