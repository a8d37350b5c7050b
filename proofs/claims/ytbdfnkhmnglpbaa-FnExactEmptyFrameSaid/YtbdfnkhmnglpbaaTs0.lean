/-
  The number of cells of a transmission, plainly. No program is named here.
-/
import Derived.Test.YtbdfnkhmnglpbaaBase
namespace Go.Proofs.Ytbdfnkhmnglpbaa

def isPre (p : Int) : Bool := decide (3 ≤ p) && decide (p ≤ 15)
def transmissionSize (n p : Int) : Int × Int :=
  if (0 ≤ n ∧ n ≤ 1024) ∧ isPre p = true then (p + 3 + 10 * n, 0) else (0, 2)
theorem isPre_iff {p : Int} : isPre p = true ↔ 3 ≤ p ∧ p ≤ 15 := by simp [isPre]
end Go.Proofs.Ytbdfnkhmnglpbaa
