/-
  Chapter 10: WorstDrift of the program and of its model.
-/
import Derived.Test.YtpedlofckbplmaaN4
namespace Go.Proofs.Ytpedlofckbplmaa
open Go.RowKit

theorem top_order (t : List Nd) : ∀ k, (topTo t k).2 ≤ (topTo t k).1
  | 0 => by simp [topTo]
  | k + 1 => by
    have ih := top_order t k
    rw [topTo]
    unfold topStep
    split
    · simp only; omega
    · split
      · simp only; omega
      · exact ih
theorem top_fst {a b d : Int} : (if a < d then d else a) = (topStep (a, b) d).1 := by
  unfold topStep
  split
  · rfl
  · split <;> rfl
theorem top_snd {a b d : Int} (h : b ≤ a) : (if b < (if d < a then d else a) then (if d < a then d else a) else b) = (topStep (a, b) d).2 := by
  unfold topStep
  by_cases h1 : a < d
  · rw [if_pos h1]; simp only; split <;> first | omega | (split <;> omega)
  · rw [if_neg h1]
    by_cases h2 : b < d
    · rw [if_pos h2]; simp only; split <;> first | omega | (split <;> omega)
    · rw [if_neg h2]; simp only; split <;> first | omega | (split <;> omega)
end Go.Proofs.Ytpedlofckbplmaa
