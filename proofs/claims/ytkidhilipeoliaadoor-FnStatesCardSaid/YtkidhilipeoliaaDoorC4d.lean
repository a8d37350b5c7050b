/-
  Chapter 4: AdvanceState on the specification's side.
-/
import Derived.Test.YtkidhilipeoliaaDoorC4c
namespace Go.Proofs.YtkidhilipeoliaaDoor
open Go.RowKit

section
variable {t m r s k d slots rounds : Int}
theorem in_iff {lo hi x : Int} : inRange lo hi x = true ↔ lo ≤ x ∧ x ≤ hi := by simp [inRange]
theorem in_not {lo hi x : Int} (h : inRange lo hi x = false) : ¬ (lo ≤ x ∧ x ≤ hi) := fun k => by rw [in_iff.2 k] at h; cases h
end
end Go.Proofs.YtkidhilipeoliaaDoor
