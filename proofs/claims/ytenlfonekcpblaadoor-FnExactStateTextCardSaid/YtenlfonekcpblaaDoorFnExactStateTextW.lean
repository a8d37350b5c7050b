/-
  The walk of laws.FnExactStateText: at every input it returns true and writes nothing that was there.
-/
import Derived.Test.YtenlfonekcpblaaDoorRows
import Derived.Test.YtenlfonekcpblaaDoorC4s
import Derived.Test.YtenlfonekcpblaaDoorFive
import Derived.WalkKit
import Derived.ProofKit
import Derived.OpenShut
import Derived.ShutString
import Derived.ChangeOld
import Derived.Below
import Derived.Lib.SmallJoins
namespace Go.Proofs.YtenlfonekcpblaaDoor.fnExactStateText
open Go.ChangeShapes Go.WideShapes Go.ChangeAt Go.RowKit Go.Joins
open Go.ChangeMaps (open_string shut_string)
set_option linter.unusedVariables false
theorem walk (s0_0 : Int) (s0_1 : Int) (s0_2 : Int) (s0_3 : Int) (s0_4 : Int) (w : World) (w0_0 : (Lit.int .i64 s0_0).wf = true) (w0_1 : (Lit.int .i64 s0_1).wf = true) (w0_2 : (Lit.int .i64 s0_2).wf = true) (w0_3 : (Lit.int .i64 s0_3).wf = true) (w0_4 : (Lit.int .i64 s0_4).wf = true) (hV : TabHere w) :
    Calls Tryd.prog 4 #[.agg #[.int .i64 s0_0, .int .i64 s0_1, .int .i64 s0_2, .int .i64 s0_3, .int .i64 s0_4]] w fun e w' => e = .returned (.bool true) ∧ Below w.heap.size w w' := by
  obtain ⟨u, hF⟩ : ∃ u, textStr s0_0 s0_1 s0_2 s0_3 s0_4 = u := ⟨_, rfl⟩
  have HF := Lib.hid hF; clear hF
  have hsz := hV.2
  have HV := Lib.hid hV; clear hV
  have H0 : Below (w.alloc (.cells #[.int .i64 s0_0, .int .i64 s0_1, .int .i64 s0_2, .int .i64 s0_3, .int .i64 s0_4] 39)).heap.size (w.alloc (.cells #[.int .i64 s0_0, .int .i64 s0_1, .int .i64 s0_2, .int .i64 s0_3, .int .i64 s0_4] 39)) (w.alloc (.cells #[.int .i64 s0_0, .int .i64 s0_1, .int .i64 s0_2, .int .i64 s0_3, .int .i64 s0_4] 39)) := Below.refl _ _
  go_enter Tryd.func4, Tryd.ntmps4
  go_wp2_with fail
  refine (toState_any _ _ _ _ _ _).mono ?_
  rintro e w1 ⟨rfl, b1⟩
  have H1 := Lib.hid (below_two H0 b1)
  clear b1 H0
  go_wp2_with fail
  refine (sStateText_any _ _ _ _ _ _).mono ?_
  rintro e w2 ⟨rfl, b2⟩
  rw [HF.out]
  have H2 := Lib.hid (below_two H1.out b2)
  clear b2 H1
  have S := state_new H2.out
  have c0 := S.c0
  have c1 := S.c1
  have c2 := S.c2
  have c3 := S.c3
  have c4 := S.c4
  clear S
  go_wp2_with fail
  clear c0 c1 c2 c3 c4
  refine (toState_any _ _ _ _ _ _).mono ?_
  rintro e w3 ⟨rfl, b3⟩
  have H3 := Lib.hid (below_two H2.out b3)
  clear b3 H2
  go_wp2_with fail
  refine (stateText_any _ _ _ _ _ _ (HV.out.below (below_box H3.out) hsz)).mono ?_
  rintro e w4 ⟨rfl, b4⟩
  rw [HF.out]
  have H4 := Lib.hid (below_two H3.out b4)
  clear b4 H3
  go_wp2_with fail
  go_ret
  exact ⟨rfl, below_box H4.out⟩
end Go.Proofs.YtenlfonekcpblaaDoor.fnExactStateText
