/-
  The walk of laws.FnExactAdvanceState: at every input it returns true and writes nothing that was there.
-/
import Derived.Test.YtcalepnieoikgaaRows
import Derived.Test.YtcalepnieoikgaaFourA
import Derived.WalkKit
import Derived.ProofKit
import Derived.OpenShut
import Derived.ShutString
import Derived.ChangeOld
import Derived.Below
import Derived.Lib.SmallJoins
namespace Go.Proofs.Ytcalepnieoikgaa.fnExactAdvanceState
open Go.ChangeShapes Go.WideShapes Go.ChangeAt Go.RowKit Go.Joins
open Go.ChangeMaps (open_string shut_string)
set_option linter.unusedVariables false
theorem walk (s0_0 : Int) (s0_1 : Int) (s0_2 : Int) (s0_3 : Int) (s0_4 : Int) (a1 : Int) (a2 : Int) (a3 : Int) (w : World) (w0_0 : (Lit.int .i64 s0_0).wf = true) (w0_1 : (Lit.int .i64 s0_1).wf = true) (w0_2 : (Lit.int .i64 s0_2).wf = true) (w0_3 : (Lit.int .i64 s0_3).wf = true) (w0_4 : (Lit.int .i64 s0_4).wf = true) (w1 : (Lit.int .i64 a1).wf = true) (w2 : (Lit.int .i64 a2).wf = true) (w3 : (Lit.int .i64 a3).wf = true) :
    Calls Try.prog 7 #[.agg #[.int .i64 s0_0, .int .i64 s0_1, .int .i64 s0_2, .int .i64 s0_3, .int .i64 s0_4], .int .i64 a1, .int .i64 a2, .int .i64 a3] w fun e w' => e = .returned (.bool true) ∧ Below w.heap.size w w' := by
  obtain ⟨q0, q1, q2, q3, q4, r1, hF⟩ : ∃ q0 q1 q2 q3 q4 r1, advanced s0_0 s0_1 s0_2 s0_3 s0_4 a1 a2 a3 = (q0, q1, q2, q3, q4, r1) := ⟨_, _, _, _, _, _, rfl⟩
  have HF := Lib.hid hF; clear hF
  have H0 : Below (w.alloc (.cells #[.int .i64 s0_0, .int .i64 s0_1, .int .i64 s0_2, .int .i64 s0_3, .int .i64 s0_4] 53)).heap.size (w.alloc (.cells #[.int .i64 s0_0, .int .i64 s0_1, .int .i64 s0_2, .int .i64 s0_3, .int .i64 s0_4] 53)) (w.alloc (.cells #[.int .i64 s0_0, .int .i64 s0_1, .int .i64 s0_2, .int .i64 s0_3, .int .i64 s0_4] 53)) := Below.refl _ _
  go_enter Try.func7, Try.ntmps7
  go_wp2_with fail
  refine (toState_any _ _ _ _ _ _).mono ?_
  rintro e w1 ⟨rfl, b1⟩
  have H1 := Lib.hid (below_two H0 b1)
  clear b1 H0
  go_wp2_with fail
  refine (sAdvanceState_any _ _ _ _ _ _ _ _ _).mono ?_
  rintro e w2 ⟨rfl, b2⟩
  rw [HF.out]
  simp only
  have S := state_new (below_two H1.out b2)
  have hlt : w.heap.size < w2.heap.size := S.lt
  have H2 := Lib.hid (Below.alloc (below_two H1.out b2) (below_two H1.out b2).size (.cells #[.int .i64 q0, .int .i64 q1, .int .i64 q2, .int .i64 q3, .int .i64 q4] 25))
  have X := Lib.hid (StateAt.new (T := 25) (t := q0) (m := q1) (r := q2) (s := q3) (k := q4) w2)
  have c0 := S.c0
  have c1 := S.c1
  have c2 := S.c2
  have c3 := S.c3
  have c4 := S.c4
  clear S b2 H1
  go_wp2_with fail
  clear c0 c1 c2 c3 c4 hlt
  obtain ⟨D, hD⟩ : ∃ D, D = w2.heap.size := ⟨_, rfl⟩
  rw [← hD] at X ⊢
  clear hD
  generalize w2.alloc (.cells #[.int .i64 q0, .int .i64 q1, .int .i64 q2, .int .i64 q3, .int .i64 q4] 25) = w3 at H2 X ⊢
  refine (toState_any _ _ _ _ _ _).mono ?_
  rintro e w4 ⟨rfl, b4⟩
  have H4 := Lib.hid (below_two H2.out b4)
  have X4 := Lib.hid (X.out.below b4 X.out.lt)
  clear b4 H2 X
  go_wp2_with fail
  refine (advanceState_any _ _ _ _ _ _ _ _ _).mono ?_
  rintro e w5 ⟨rfl, b5⟩
  rw [HF.out]
  simp only
  have X5 := X4.out.below b5 X4.out.lt
  have hlt : D < w5.heap.size := X5.lt
  have H5 := Lib.hid (Below.alloc (below_two H4.out b5) (below_two H4.out b5).size (.cells #[.int .i64 q0, .int .i64 q1, .int .i64 q2, .int .i64 q3, .int .i64 q4] 25))
  have c0 := X5.c0
  have c1 := X5.c1
  have c2 := X5.c2
  have c3 := X5.c3
  have c4 := X5.c4
  clear X5 b5 H4 X4
  go_wp2_with fail
  clear c0 c1 c2 c3 c4 hlt
  refine (eqState_any _ _ _ _ _ _).mono ?_
  rintro e w6 ⟨rfl, b6⟩
  have H6 := Lib.hid (below_two H5.out b6)
  have n1 : (r1 != r1) = false := by simp
  clear b6
  go_wp2_with fail
  go_ret
  exact ⟨rfl, below_box H6.out⟩
end Go.Proofs.Ytcalepnieoikgaa.fnExactAdvanceState
