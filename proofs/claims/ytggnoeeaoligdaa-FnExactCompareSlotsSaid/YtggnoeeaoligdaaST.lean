/-
  Two boxes of slots read in a later world.
-/
import Derived.Test.YtggnoeeaoligdaaSU
import Derived.Test.YtggnoeeaoligdaaSL
namespace Go.Proofs.Ytggnoeeaoligdaa
open Go.RowKit
/-- Two boxes read in a later world. -/
theorem two16 {T b1 b2 : Nat} {w W : World} {x y : Sl} (hW : Below w.heap.size w W) (h1 : SlBk T w b1 x) (h2 : SlBk T w b2 y) :
    W.cell? ⟨b1, 0, none⟩ = some (Value.int .i64 x.mode) ∧ W.cell? ⟨b1, 1, none⟩ = some (Value.int .i64 x.round) ∧ W.cell? ⟨b1, 2, none⟩ = some (Value.int .i64 x.slot) ∧ W.cell? ⟨b1, 3, none⟩ = some (Value.int .i64 x.desc.node) ∧ W.cell? ⟨b1, 4, none⟩ = some (Value.int .i64 x.desc.kind) ∧ W.cell? ⟨b1, 5, none⟩ = some (Value.int .i64 x.desc.size) ∧ W.cell? ⟨b1, 6, none⟩ = some (Value.int .i64 x.desc.dur) ∧ W.cell? ⟨b1, 7, none⟩ = some (Value.bool x.desc.chg) ∧ W.cell? ⟨b2, 0, none⟩ = some (Value.int .i64 y.mode) ∧ W.cell? ⟨b2, 1, none⟩ = some (Value.int .i64 y.round) ∧ W.cell? ⟨b2, 2, none⟩ = some (Value.int .i64 y.slot) ∧ W.cell? ⟨b2, 3, none⟩ = some (Value.int .i64 y.desc.node) ∧ W.cell? ⟨b2, 4, none⟩ = some (Value.int .i64 y.desc.kind) ∧ W.cell? ⟨b2, 5, none⟩ = some (Value.int .i64 y.desc.size) ∧ W.cell? ⟨b2, 6, none⟩ = some (Value.int .i64 y.desc.dur) ∧ W.cell? ⟨b2, 7, none⟩ = some (Value.bool y.desc.chg) := by
  obtain ⟨a0, a1, a2, a3, a4, a5, a6, a7⟩ := (h1.below hW h1.lt).all8
  obtain ⟨c0, c1, c2, c3, c4, c5, c6, c7⟩ := (h2.below hW h2.lt).all8
  exact ⟨a0, a1, a2, a3, a4, a5, a6, a7, c0, c1, c2, c3, c4, c5, c6, c7⟩
end Go.Proofs.Ytggnoeeaoligdaa
