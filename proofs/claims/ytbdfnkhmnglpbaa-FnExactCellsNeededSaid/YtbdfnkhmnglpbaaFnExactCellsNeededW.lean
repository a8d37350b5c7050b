/-
  The walk of laws.FnExactCellsNeeded: at every input it returns true and writes nothing that was there.
-/
import Derived.Test.YtbdfnkhmnglpbaaRows
import Derived.Test.YtbdfnkhmnglpbaaEigA
import Derived.Test.YtbdfnkhmnglpbaaBase
import Derived.WalkKit
import Derived.ProofKit
import Derived.OpenShut
import Derived.ShutString
namespace Go.Proofs.Ytbdfnkhmnglpbaa.fnExactCellsNeeded
open Go.ChangeShapes Go.WideShapes Go.ChangeAt Go.RowKit
open Go.ChangeMaps (open_string shut_string)
set_option linter.unusedVariables false      -- a walk need not use every 'w<i>' (that an integer argument fits its kind)


/-! ### STEP 1: THE WALK: the Go text returns true. 'Grown w w'': the world has at most new blocks (Derived/RowKit3.lean). Part the cases AHEAD of 'go_enter' where a test parts the walk; take each callee by a contract of your own. -/
theorem walk (a0 : Int) (a1 : Int) (w0 : (Lit.int .i64 a0).wf = true) (w1 : (Lit.int .i64 a1).wf = true) (w : World) :
    Calls Try.prog 13 #[.int .i64 a0, .int .i64 a1] w fun e w' => e = .returned (.bool true) ∧ Below w.heap.size w w' := by
  obtain ⟨r0, r1, hF⟩ : ∃ r0 r1, cellsNeeded a0 a1 = (r0, r1) := ⟨_, _, rfl⟩
  have HF := Lib.hid hF; clear hF
  have H : Held 2 w w [] := Held.start
  go_enter Try.func13, Try.ntmps13
  go_wp2_with fail
  refine (sCellsNeeded_any _ _ _).mono ?_
  rintro e w1' ⟨rfl, b1⟩
  replace H := H.still b1
  clear b1
  rw [HF.out]
  go_wp2_with fail
  refine (cellsNeeded_any _ _ _).mono ?_
  rintro e w2' ⟨rfl, b2⟩
  replace H := H.still b2
  clear b2
  rw [HF.out]
  go_wp2_with fail
  go_ret
  exact ⟨rfl, H.below⟩
  -- go_enter Try.func13, Try.ntmps13
  -- go_wp2
  -- go_ret
  -- exact ⟨rfl, by repeat (first | exact Grown.refl _ | apply Grown.drew | apply Grown.alloc)⟩


end Go.Proofs.Ytbdfnkhmnglpbaa.fnExactCellsNeeded
