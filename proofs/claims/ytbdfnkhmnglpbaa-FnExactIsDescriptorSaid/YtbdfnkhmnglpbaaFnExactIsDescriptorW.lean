/-
  The walk of laws.FnExactIsDescriptor: at every input it returns true and writes nothing that was there.
-/
import Derived.Test.YtbdfnkhmnglpbaaRows
import Derived.Test.YtbdfnkhmnglpbaaEigA
import Derived.Test.YtbdfnkhmnglpbaaBase
import Derived.Test.YtbdfnkhmnglpbaaFourA
import Derived.Test.YtbdfnkhmnglpbaaEigE
import Derived.WalkKit
import Derived.ProofKit
import Derived.OpenShut
import Derived.ShutString
import Derived.ChangeOld
import Derived.Below
import Derived.Lib.SmallJoins
namespace Go.Proofs.Ytbdfnkhmnglpbaa.fnExactIsDescriptor
open Go.ChangeShapes Go.WideShapes Go.ChangeAt Go.RowKit Go.Joins
open Go.ChangeMaps (open_string shut_string)
set_option linter.unusedVariables false
theorem walk (s0_0 : Int) (s0_1 : Int) (s0_2 : Int) (s0_3 : Int) (s0_4 : Bool) (w : World) (w0_0 : (Lit.int .i64 s0_0).wf = true) (w0_1 : (Lit.int .i64 s0_1).wf = true) (w0_2 : (Lit.int .i64 s0_2).wf = true) (w0_3 : (Lit.int .i64 s0_3).wf = true) :
    Calls Try.prog 11 #[.agg #[.int .i64 s0_0, .int .i64 s0_1, .int .i64 s0_2, .int .i64 s0_3, .bool s0_4]] w fun e w' => e = .returned (.bool true) ∧ Below w.heap.size w w' := by
  obtain ⟨r0, hF⟩ : ∃ r0, isDesc ⟨s0_0, s0_1, s0_2, s0_3, s0_4⟩ = r0 := ⟨_, rfl⟩
  have HF := Lib.hid hF; clear hF
  have hB0 : Below w.heap.size w (w.alloc (.cells #[.int .i64 s0_0, .int .i64 s0_1, .int .i64 s0_2, .int .i64 s0_3, .bool s0_4] 75)) := (Below.refl _ _).alloc (Nat.le_refl _) _
  have HB0 := Lib.hid hB0; clear hB0
  have H : Held 2 (w.alloc (.cells #[.int .i64 s0_0, .int .i64 s0_1, .int .i64 s0_2, .int .i64 s0_3, .bool s0_4] 75)) (w.alloc (.cells #[.int .i64 s0_0, .int .i64 s0_1, .int .i64 s0_2, .int .i64 s0_3, .bool s0_4] 75)) [] := Held.start
  go_enter Try.func11, Try.ntmps11
  go_wp2_with fail
  refine (toDescriptor_any _ _ _ _ _ _).mono ?_
  rintro e w1' ⟨rfl, b1⟩
  replace H := H.still b1
  clear b1
  go_wp2_with fail
  refine (sIsDescriptor_any _ _ _ _ _ _).mono ?_
  rintro e w2' ⟨rfl, b2⟩
  replace H := H.still b2
  clear b2
  rw [HF.out]
  have SS := desc_new H.below
  have hc0 := SS.c0
  have hc1 := SS.c1
  have hc2 := SS.c2
  have hc3 := SS.c3
  have hc4 := SS.c4
  clear SS
  go_wp2_with fail
  clear hc0 hc1 hc2 hc3 hc4
  refine (toDescriptor_any _ _ _ _ _ _).mono ?_
  rintro e w3' ⟨rfl, b3⟩
  replace H := H.still b3
  clear b3
  go_wp2_with fail
  refine (isDescriptor_any _ _ _ _ _ _).mono ?_
  rintro e w4' ⟨rfl, b4⟩
  replace H := H.still b4
  clear b4
  rw [HF.out]
  go_wp2_with fail
  go_ret
  exact ⟨rfl, below_two HB0.out H.below⟩
end Go.Proofs.Ytbdfnkhmnglpbaa.fnExactIsDescriptor
