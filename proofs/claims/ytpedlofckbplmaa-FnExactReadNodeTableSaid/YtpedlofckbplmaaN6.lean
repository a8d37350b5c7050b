/-
  Chapter 10: WorstDrift, ActiveVector, FindNode of the program and of its model.
-/
import Derived.Test.YtpedlofckbplmaaN5
import Derived.Test.YtpedlofckbplmaaFiv
namespace Go.Proofs.Ytpedlofckbplmaa
open Go.RowKit

theorem wd_no {t : List Nd} {z : Int} (h : isTable t = false) : worstDrift t z = (0, 1) := by unfold worstDrift; rw [if_neg (by rw [h]; simp)]
theorem wd_range {t : List Nd} {z : Int} (h : isTable t = true) (h2 : inRange 0 65535 z = false) : worstDrift t z = (0, 2) := by unfold worstDrift; rw [if_pos h, if_neg (by rw [h2]; simp)]
theorem wd_yes {t : List Nd} {z : Int} (h : isTable t = true) (h2 : inRange 0 65535 z = true) : worstDrift t z = (driftIn t z, 0) := by unfold worstDrift; rw [if_pos h, if_pos h2]
theorem drift_ops {a z : Int} (h0 : 0 ≤ a * z) (h1 : a * z ≤ 131070000) : IntKind.i64.wrap (a * z) = a * z ∧ IntKind.i64.wrap (a * z + 1000000) = a * z + 1000000 ∧ IntKind.i64.wrap (a * z + 1000000 - 1) = a * z + 999999 ∧ IntKind.i64.wrap ((a * z + 999999).tdiv 1000000) = (a * z + 999999) / 1000000 ∧ IntKind.i64.wrap (a * z + 999999) = a * z + 999999 := by
  rw [Int.tdiv_eq_ediv_of_nonneg (by omega)]
  simp only [IntKind.wrap_i64]
  generalize a * z = m at *
  omega
end Go.Proofs.Ytpedlofckbplmaa
