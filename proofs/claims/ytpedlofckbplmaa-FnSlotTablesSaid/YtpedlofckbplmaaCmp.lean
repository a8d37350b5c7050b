/-
  cmp.Compare of numbers.
-/
import Derived.Test.YtpedlofckbplmaaIn
namespace Go.Proofs.Ytpedlofckbplmaa
open Go.RowKit

/-! ### compared -/
def cmpI (a b : Int) : Int := if a < b then -1 else if b < a then 1 else 0
theorem notNaN_any (a : Int) (w : World) : Calls Try.prog 143 #[.int .i64 a] w fun e w' => e = .returned (.bool false) ∧ w = w' := by
  go_enter Try.func143, Try.ntmps143
  go_wp2
  go_ret
  exact ⟨by simp, rfl⟩
theorem compare_any (a b : Int) (w : World) : Calls Try.prog 122 #[.int .i64 a, .int .i64 b] w fun e w' => e = .returned (.int .i64 (cmpI a b)) ∧ w = w' := by
  unfold cmpI
  by_cases h1 : a < b
  · rw [if_pos h1]
    go_enter Try.func122, Try.ntmps122
    go_wp2_with (go_at_call 143; refine (notNaN_any _ _).mono ?_; rintro e w1 ⟨rfl, rfl⟩)
    go_ret
    exact ⟨rfl, rfl⟩
  · rw [if_neg h1]
    by_cases h2 : b < a
    · rw [if_pos h2]
      go_enter Try.func122, Try.ntmps122
      go_wp2_with (go_at_call 143; refine (notNaN_any _ _).mono ?_; rintro e w1 ⟨rfl, rfl⟩)
      go_ret
      exact ⟨rfl, rfl⟩
    · rw [if_neg h2]
      go_enter Try.func122, Try.ntmps122
      go_wp2_with (go_at_call 143; refine (notNaN_any _ _).mono ?_; rintro e w1 ⟨rfl, rfl⟩)
      go_ret
      exact ⟨rfl, rfl⟩
end Go.Proofs.Ytpedlofckbplmaa
