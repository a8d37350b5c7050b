/-
  Chapter 12: what FnInserted says of the order.
-/
import Derived.Test.YtggnoeeaoligdaaSl1
namespace Go.Proofs.Ytggnoeeaoligdaa
theorem cmpSl_neg (x y : Sl) : cmpSl y x = -cmpSl x y := by
  unfold cmpSl
  repeat' split
  all_goals omega
theorem cmpSl_in (x y : Sl) : -1 ≤ cmpSl x y ∧ cmpSl x y ≤ 1 := by
  unfold cmpSl
  repeat' split
  all_goals omega
end Go.Proofs.Ytggnoeeaoligdaa
