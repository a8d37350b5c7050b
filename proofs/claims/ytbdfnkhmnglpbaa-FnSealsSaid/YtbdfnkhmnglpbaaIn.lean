/-
  spec.l01In: whether a number lies between two.
-/
import Derived.Test.YtbdfnkhmnglpbaaSt
import Derived.Test.YtbdfnkhmnglpbaaOne
namespace Go.Proofs.Ytbdfnkhmnglpbaa
open Go.RowKit

theorem l01In_any (x lo hi : Int) (w : World) : Calls Try.prog 107 #[.int .i64 x, .int .i64 lo, .int .i64 hi] w fun e w' => e = .returned (.bool (inRange lo hi x)) ∧ w = w' := by
  by_cases h0 : lo ≤ x
  · by_cases h1 : x ≤ hi
    · rw [show inRange lo hi x = true from by simp [inRange, h0, h1]]; exact l01In_yes x lo hi w h0 h1
    · rw [show inRange lo hi x = false from by simp [inRange, h1]]; exact l01In_no x lo hi w (.inr (by omega))
  · rw [show inRange lo hi x = false from by simp [inRange, h0]]; exact l01In_no x lo hi w (.inl (by omega))
end Go.Proofs.Ytbdfnkhmnglpbaa
