/-
  The walk of laws.FnExactStateDistance: at every input it returns true and writes nothing that was there.
-/
import Derived.Test.YtenlfonekcpblaaRows
import Derived.Test.YtenlfonekcpblaaC4h
import Derived.Test.YtenlfonekcpblaaFive
import Derived.WalkKit
import Derived.ProofKit
import Derived.OpenShut
import Derived.ShutString
import Derived.ChangeOld
import Derived.Below
import Derived.Lib.SmallJoins
namespace Go.Proofs.Ytenlfonekcpblaa.fnExactStateDistance
open Go.ChangeShapes Go.WideShapes Go.ChangeAt Go.RowKit Go.Joins
open Go.ChangeMaps (open_string shut_string)
set_option linter.unusedVariables false
theorem walk (s0_0 : Int) (s0_1 : Int) (s0_2 : Int) (s0_3 : Int) (s0_4 : Int) (s1_0 : Int) (s1_1 : Int) (s1_2 : Int) (s1_3 : Int) (s1_4 : Int) (w : World) (w0_0 : (Lit.int .i64 s0_0).wf = true) (w0_1 : (Lit.int .i64 s0_1).wf = true) (w0_2 : (Lit.int .i64 s0_2).wf = true) (w0_3 : (Lit.int .i64 s0_3).wf = true) (w0_4 : (Lit.int .i64 s0_4).wf = true) (w1_0 : (Lit.int .i64 s1_0).wf = true) (w1_1 : (Lit.int .i64 s1_1).wf = true) (w1_2 : (Lit.int .i64 s1_2).wf = true) (w1_3 : (Lit.int .i64 s1_3).wf = true) (w1_4 : (Lit.int .i64 s1_4).wf = true) :
    Calls Try.prog 9 #[.agg #[.int .i64 s0_0, .int .i64 s0_1, .int .i64 s0_2, .int .i64 s0_3, .int .i64 s0_4], .agg #[.int .i64 s1_0, .int .i64 s1_1, .int .i64 s1_2, .int .i64 s1_3, .int .i64 s1_4]] w fun e w' => e = .returned (.bool true) ∧ Below w.heap.size w w' := by
  obtain ⟨r0, r1, hF⟩ : ∃ r0 r1, distOf s0_0 s0_1 s0_2 s0_3 s0_4 s1_0 s1_1 s1_2 s1_3 s1_4 = (r0, r1) := ⟨_, _, rfl⟩
  have HF := Lib.hid hF; clear hF
  have hB0 : Below w.heap.size w ((w.alloc (.cells #[.int .i64 s0_0, .int .i64 s0_1, .int .i64 s0_2, .int .i64 s0_3, .int .i64 s0_4] 34)).alloc (.cells #[.int .i64 s1_0, .int .i64 s1_1, .int .i64 s1_2, .int .i64 s1_3, .int .i64 s1_4] 34)) := ((Below.refl _ _).alloc (Nat.le_refl _) _).alloc (by simp) _
  have HB0 := Lib.hid hB0; clear hB0
  have H0 : Below ((w.alloc (.cells #[.int .i64 s0_0, .int .i64 s0_1, .int .i64 s0_2, .int .i64 s0_3, .int .i64 s0_4] 34)).alloc (.cells #[.int .i64 s1_0, .int .i64 s1_1, .int .i64 s1_2, .int .i64 s1_3, .int .i64 s1_4] 34)).heap.size ((w.alloc (.cells #[.int .i64 s0_0, .int .i64 s0_1, .int .i64 s0_2, .int .i64 s0_3, .int .i64 s0_4] 34)).alloc (.cells #[.int .i64 s1_0, .int .i64 s1_1, .int .i64 s1_2, .int .i64 s1_3, .int .i64 s1_4] 34)) ((w.alloc (.cells #[.int .i64 s0_0, .int .i64 s0_1, .int .i64 s0_2, .int .i64 s0_3, .int .i64 s0_4] 34)).alloc (.cells #[.int .i64 s1_0, .int .i64 s1_1, .int .i64 s1_2, .int .i64 s1_3, .int .i64 s1_4] 34)) := Below.refl _ _
  go_enter Try.func9, Try.ntmps9
  go_upto_region 1 with fail
  have H1 := Lib.hid (Below.drew H0)
  go_region_held3 (fun w' => w'.cell? ⟨w.heap.size, 0, none⟩ = some (.int .i64 s0_0) ∧ w'.cell? ⟨w.heap.size, 1, none⟩ = some (.int .i64 s0_1) ∧ w'.cell? ⟨w.heap.size, 2, none⟩ = some (.int .i64 s0_2) ∧ w'.cell? ⟨w.heap.size, 3, none⟩ = some (.int .i64 s0_3) ∧ w'.cell? ⟨w.heap.size, 4, none⟩ = some (.int .i64 s0_4) ∧ w'.cell? ⟨w.heap.size + 1, 0, none⟩ = some (.int .i64 s1_0) ∧ w'.cell? ⟨w.heap.size + 1, 1, none⟩ = some (.int .i64 s1_1) ∧ w'.cell? ⟨w.heap.size + 1, 2, none⟩ = some (.int .i64 s1_2) ∧ w'.cell? ⟨w.heap.size + 1, 3, none⟩ = some (.int .i64 s1_3) ∧ w'.cell? ⟨w.heap.size + 1, 4, none⟩ = some (.int .i64 s1_4))
    (first | exact cells_two H1.out | exact cells_two H2.out | exact cells_two H3.out | exact cells_two H4.out)
    (first
      | (go_at_call 21; (with_reducible refine (toState_any _ _ _ _ _ _).mono ?_); rintro e w1 ⟨rfl, b1⟩; have H2 := Lib.hid (below_two H1.out b1); clear b1 H1)
      | (go_at_call 21; (with_reducible refine (toState_any _ _ _ _ _ _).mono ?_); rintro e w2 ⟨rfl, b2⟩; have H3 := Lib.hid (below_two H2.out b2); clear b2 H2)
      | (go_at_call 18; (with_reducible refine (sStateDistance_any _ _ _ _ _ _ _ _ _ _ _).mono ?_); rintro e w3 ⟨rfl, b3⟩; rw [HF.out]; have H4 := Lib.hid (below_two H3.out b3); clear b3 H3))
  go_upto_region 2 with fail
  have H5 := Lib.hid (Below.drew H4.out); clear H4
  go_region_held3 (fun w' => w'.cell? ⟨w.heap.size, 0, none⟩ = some (.int .i64 s0_0) ∧ w'.cell? ⟨w.heap.size, 1, none⟩ = some (.int .i64 s0_1) ∧ w'.cell? ⟨w.heap.size, 2, none⟩ = some (.int .i64 s0_2) ∧ w'.cell? ⟨w.heap.size, 3, none⟩ = some (.int .i64 s0_3) ∧ w'.cell? ⟨w.heap.size, 4, none⟩ = some (.int .i64 s0_4) ∧ w'.cell? ⟨w.heap.size + 1, 0, none⟩ = some (.int .i64 s1_0) ∧ w'.cell? ⟨w.heap.size + 1, 1, none⟩ = some (.int .i64 s1_1) ∧ w'.cell? ⟨w.heap.size + 1, 2, none⟩ = some (.int .i64 s1_2) ∧ w'.cell? ⟨w.heap.size + 1, 3, none⟩ = some (.int .i64 s1_3) ∧ w'.cell? ⟨w.heap.size + 1, 4, none⟩ = some (.int .i64 s1_4))
    (first | exact cells_two H5.out | exact cells_two H6.out | exact cells_two H7.out | exact cells_two H8.out)
    (first
      | (go_at_call 21; (with_reducible refine (toState_any _ _ _ _ _ _).mono ?_); rintro e w5 ⟨rfl, b5⟩; have H6 := Lib.hid (below_two H5.out b5); clear b5 H5)
      | (go_at_call 21; (with_reducible refine (toState_any _ _ _ _ _ _).mono ?_); rintro e w6 ⟨rfl, b6⟩; have H7 := Lib.hid (below_two H6.out b6); clear b6 H6)
      | (go_at_call 17; (with_reducible refine (stateDistance_any _ _ _ _ _ _ _ _ _ _ _).mono ?_); rintro e w7 ⟨rfl, b7⟩; rw [HF.out]; have H8 := Lib.hid (below_two H7.out b7); clear b7 H7))
  have n0 : (r0 != r0) = false := by simp
  have n1 : (r1 != r1) = false := by simp
  go_wp2_with fail
  go_ret
  exact ⟨rfl, below_two HB0.out H8.out⟩
end Go.Proofs.Ytenlfonekcpblaa.fnExactStateDistance
