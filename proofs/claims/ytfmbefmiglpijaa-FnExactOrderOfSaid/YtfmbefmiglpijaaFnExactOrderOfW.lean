/-
  The walk of laws.FnExactOrderOf: at every input it returns true and writes nothing that was there.
-/
import Derived.Test.YtfmbefmiglpijaaRows
import Derived.Test.YtfmbefmiglpijaaC3c
import Derived.WalkKit
import Derived.ProofKit
import Derived.OpenShut
import Derived.ShutString
import Derived.ChangeOld
import Derived.Below
import Derived.Lib.SmallJoins
namespace Go.Proofs.Ytfmbefmiglpijaa.fnExactOrderOf
open Go.ChangeShapes Go.WideShapes Go.ChangeAt Go.RowKit Go.Joins
open Go.ChangeMaps (open_string shut_string)
set_option linter.unusedVariables false
theorem walk (s0_0 : Int) (s0_1 : Int) (w : World) (w0_0 : (Lit.int .i64 s0_0).wf = true) (w0_1 : (Lit.int .i64 s0_1).wf = true) :
    Calls Try.prog 8 #[.agg #[.int .i64 s0_0, .int .i64 s0_1]] w fun e w' => e = .returned (.bool true) ∧ Below w.heap.size w w' := by
  obtain ⟨r0, r1, hF⟩ : ∃ r0 r1, orderOf s0_0 s0_1 = (r0, r1) := ⟨_, _, rfl⟩
  have HF := Lib.hid hF; clear hF
  have hB0 : Below w.heap.size w (w.alloc (.cells #[.int .i64 s0_0, .int .i64 s0_1] 52)) := (Below.refl _ _).alloc (Nat.le_refl _) _
  have HB0 := Lib.hid hB0; clear hB0
  have H : Held 2 (w.alloc (.cells #[.int .i64 s0_0, .int .i64 s0_1] 52)) (w.alloc (.cells #[.int .i64 s0_0, .int .i64 s0_1] 52)) [] := Held.start
  go_enter Try.func8, Try.ntmps8
  go_wp2_with fail
  refine (toCrc_any _ _ _).mono ?_
  rintro e w1' ⟨rfl, b1⟩
  replace H := H.still b1
  clear b1
  go_wp2_with fail
  refine (sOrderOf_any _ _ _).mono ?_
  rintro e w2' ⟨rfl, b2⟩
  replace H := H.still b2
  clear b2
  rw [HF.out]
  obtain ⟨hc0, hc1⟩ := crc_kept H.below
  go_wp2_with fail
  clear hc0 hc1
  refine (toCrc_any _ _ _).mono ?_
  rintro e w3' ⟨rfl, b3⟩
  replace H := H.still b3
  clear b3
  go_wp2_with fail
  refine (orderOf_any _ _ _).mono ?_
  rintro e w4' ⟨rfl, b4⟩
  replace H := H.still b4
  clear b4
  rw [HF.out]
  go_wp2_with fail
  go_ret
  exact ⟨rfl, below_two HB0.out H.below⟩
end Go.Proofs.Ytfmbefmiglpijaa.fnExactOrderOf
