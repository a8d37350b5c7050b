/-
  Boxes and slices that lie apart. No program is named here.
-/
import Derived.Test.YtbdfnkhmnglpbaaGG
namespace Go.Proofs.Ytbdfnkhmnglpbaa
open Go.RowKit

/-- A slice that was made behind a box lies above it. -/
theorem above_box {E B : Nat} {w w' : World} {v : Value} {xs : List Int} (o : Own E w' w.heap.size v xs) (h : B < w.heap.size) : ∀ k, v.ownBlock = some k → B < k := fun k hk => Nat.lt_of_lt_of_le h (o.block k hk).1
theorem below_size' {E base : Nat} {w : World} {v : Value} {xs : List Int} (o : Own E w base v xs) : ∀ k, v.ownBlock = some k → k < w.heap.size := fun k hk => (o.block k hk).2
theorem ne_below {B : Nat} {v : Value} (h : ∀ k, v.ownBlock = some k → B < k) : some B ≠ v.ownBlock := fun e => Nat.lt_irrefl _ (h B e.symm)
theorem ne_above {B : Nat} {v : Value} (h : ∀ k, v.ownBlock = some k → k < B) : some B ≠ v.ownBlock := fun e => Nat.lt_irrefl _ (h B e.symm)
end Go.Proofs.Ytbdfnkhmnglpbaa
