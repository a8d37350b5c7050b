/-
  The walk of laws.FnExactStandardCrc: at every input it returns true and writes nothing that was there.
-/
import Derived.Test.YtadmpfmpmpdbeaaRows
import Derived.Test.YtadmpfmpmpdbeaaC2l
import Derived.WalkKit
import Derived.ProofKit
import Derived.OpenShut
import Derived.ShutString
namespace Go.Proofs.Ytadmpfmpmpdbeaa.fnExactStandardCrc
open Go.ChangeShapes Go.WideShapes Go.ChangeAt Go.RowKit
open Go.ChangeMaps (open_string shut_string)
set_option linter.unusedVariables false      -- a walk need not use every 'w<i>' (that an integer argument fits its kind)


/-! ### STEP 1: THE WALK: the Go text returns true. 'Grown w w'': the world has at most new blocks (Derived/RowKit3.lean). Part the cases AHEAD of 'go_enter' where a test parts the walk; take each callee by a contract of your own. -/
theorem walk  (w : World) :
    Calls Try.prog 8 #[] w fun e w' => e = .returned (.bool true) ∧ Below w.heap.size w w' := by
  go_enter Try.func8, Try.ntmps8
  go_wp2_with fail
  refine (sStandardCrc_any _).mono ?_
  rintro e w1 ⟨rfl, b1⟩
  go_wp2_with fail
  refine (standardCrc_any _).mono ?_
  rintro e w2 ⟨rfl, b2⟩
  obtain ⟨hc0, hc1⟩ := crc_kept (b2.alloc b2.size (.cells #[.int .i64 24, .int .i64 6122955] 25))
  have hs2 := b2.size
  have hb2 := Lib.hid (below_two (below_two b1 ((Below.refl _ _).alloc (Nat.le_refl _) _)) b2)
  clear b2 b1
  have hne : w1.heap.size ≠ w2.heap.size := by simp at hs2; omega
  clear hs2
  go_wp2_with fail
  refine (eqCrc_any _ _ _).mono ?_
  rintro e w3 ⟨rfl, b3⟩
  go_wp2_with fail
  go_ret
  exact ⟨rfl, below_two (below_two hb2.out ((Below.refl _ _).alloc (Nat.le_refl _) _)) b3⟩
  -- go_enter Try.func8, Try.ntmps8
  -- go_wp2
  -- go_ret
  -- exact ⟨rfl, by repeat (first | exact Grown.refl _ | apply Grown.drew | apply Grown.alloc)⟩


end Go.Proofs.Ytadmpfmpmpdbeaa.fnExactStandardCrc
