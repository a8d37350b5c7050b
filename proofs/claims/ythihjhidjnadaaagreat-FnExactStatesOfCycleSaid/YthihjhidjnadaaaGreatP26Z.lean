/-
  Contracts of the program's, the model's and the laws' functions, and plain mathematics, on which a proof of this claim stands (part Z).
-/
import Derived.Deep.QuietTactic
import Derived.BigQuiet
import Derived.StillTailTactics
import Derived.Deep.RegionHeld3
import Derived.Deep.AppendLies
import Derived.Deep.RegionWith
import Derived.Handy
import Derived.Test.YthihjhidjnadaaaGreatP26A
namespace Go.Proofs.YthihjhidjnadaaaGreat
section
open Go.RowKit
theorem isId_any (x : Int) (w : World) : Calls Tryz.prog 241 #[.int .i64 x] w fun e w' => e = .returned (.bool (inRange 0 16777215 x)) ∧ w = w' := by
  by_cases h0 : x < 0
  · rw [show inRange 0 16777215 x = false from by simp [inRange]; omega]
    go_enter Tryz.func241, Tryz.ntmps241
    go_wp2
    go_ret
    exact ⟨rfl, rfl⟩
  · by_cases h1 : 16777215 < x
    · rw [show inRange 0 16777215 x = false from by simp [inRange]; omega]
      go_enter Tryz.func241, Tryz.ntmps241
      go_wp2
      go_ret
      exact ⟨ret_bool (decide_eq_false (by omega)), rfl⟩
    · rw [show inRange 0 16777215 x = true from by simp [inRange]; omega]
      go_enter Tryz.func241, Tryz.ntmps241
      go_wp2
      go_ret
      exact ⟨rfl, rfl⟩
section
variable {T b : Nat} {w w' : World} {p : Value} {id t m r s k : Int}
end
end
end Go.Proofs.YthihjhidjnadaaaGreat
