/-
  The walk of laws.FnExactDescriptorToBytes: at every input it returns true and writes nothing that was there.
-/
import Derived.Test.YtbdfnkhmnglpbaaRows
import Derived.Test.YtbdfnkhmnglpbaaEigB
import Derived.Test.YtbdfnkhmnglpbaaBase
import Derived.Test.YtbdfnkhmnglpbaaFourA
import Derived.Test.YtbdfnkhmnglpbaaEigE
import Derived.WalkKit
import Derived.ProofKit
import Derived.OpenShut
import Derived.ShutString
import Derived.ChangeOld
import Derived.Below
import Derived.Lib.SmallJoins
namespace Go.Proofs.Ytbdfnkhmnglpbaa.fnExactDescriptorToBytes
open Go.ChangeShapes Go.WideShapes Go.ChangeAt Go.RowKit Go.Joins
open Go.ChangeMaps (open_string shut_string)
set_option linter.unusedVariables false
theorem walk (s0_0 : Int) (s0_1 : Int) (s0_2 : Int) (s0_3 : Int) (s0_4 : Bool) (w : World) (w0_0 : (Lit.int .i64 s0_0).wf = true) (w0_1 : (Lit.int .i64 s0_1).wf = true) (w0_2 : (Lit.int .i64 s0_2).wf = true) (w0_3 : (Lit.int .i64 s0_3).wf = true) :
    Calls Try.prog 15 #[.agg #[.int .i64 s0_0, .int .i64 s0_1, .int .i64 s0_2, .int .i64 s0_3, .bool s0_4]] w fun e w' => e = .returned (.bool true) ∧ Below w.heap.size w w' := by
  obtain ⟨r0, r1, hF⟩ : ∃ r0 r1, descToBytes ⟨s0_0, s0_1, s0_2, s0_3, s0_4⟩ = (r0, r1) := ⟨_, _, rfl⟩
  have hlen : r0.length ≤ 1048576 := by have h := descToBytes_len ⟨s0_0, s0_1, s0_2, s0_3, s0_4⟩; rw [hF] at h; exact Nat.le_trans h (by omega)
  have HF := Lib.hid hF; clear hF
  have hB0 : Below w.heap.size w (w.alloc (.cells #[.int .i64 s0_0, .int .i64 s0_1, .int .i64 s0_2, .int .i64 s0_3, .bool s0_4] 75)) := (Below.refl _ _).alloc (Nat.le_refl _) _
  have HB0 := Lib.hid hB0; clear hB0
  have H : Held 2 (w.alloc (.cells #[.int .i64 s0_0, .int .i64 s0_1, .int .i64 s0_2, .int .i64 s0_3, .bool s0_4] 75)) (w.alloc (.cells #[.int .i64 s0_0, .int .i64 s0_1, .int .i64 s0_2, .int .i64 s0_3, .bool s0_4] 75)) [] := Held.start
  go_enter Try.func15, Try.ntmps15
  go_wp2_with fail
  refine (toDescriptor_any _ _ _ _ _ _).mono ?_
  rintro e w1' ⟨rfl, b1⟩
  replace H := H.still b1
  clear b1
  go_wp2_with fail
  refine (sDescToBytes_any _ _ _ _ _ _).mono ?_
  rintro e w2' m2
  rw [HF.out] at m2
  change Makes2 2 _ r0 r1 _ _ at m2
  obtain ⟨p2, c2, rfl, o2, -, b2⟩ := m2.get
  replace H := H.make o2 b2
  clear o2 b2 m2
  have SS := desc_new H.below
  have hc0 := SS.c0
  have hc1 := SS.c1
  have hc2 := SS.c2
  have hc3 := SS.c3
  have hc4 := SS.c4
  clear SS
  go_wp2_with fail
  clear hc0 hc1 hc2 hc3 hc4
  refine (toDescriptor_any _ _ _ _ _ _).mono ?_
  rintro e w3' ⟨rfl, b3⟩
  replace H := H.still b3
  clear b3
  go_wp2_with fail
  refine (descToBytes_any _ _ _ _ _ _).mono ?_
  rintro e w4' m4
  rw [HF.out] at m4
  change Makes2 2 _ r0 r1 _ _ at m4
  obtain ⟨p4, c4, rfl, o4, -, b4⟩ := m4.get
  replace H := H.make o4 b4
  clear o4 b4 m4
  go_wp2_with fail
  refine (eq_yes _ _ _ _ _ _ _ _ (H.rd 0 rfl rfl) (H.rd 1 rfl rfl) (by omega)).mono ?_
  rintro e w5' ⟨rfl, b5⟩
  replace H := H.still b5
  clear b5
  go_wp2_with fail
  refine (mark_own _ _ _ _ _ _ _ rfl (H.get 0 rfl) (by omega) (by omega) (by omega)).mono ?_
  rintro e w6' ⟨rfl, o6, g6⟩
  replace H := H.mark [] o6 g6
  clear o6 g6
  go_wp2_with fail
  refine (held_yes _ _ _ _ _ (H.rd 0 rfl (marks_len _ _)) (by omega) (by omega) (by omega)).mono ?_
  rintro e w' ⟨rfl, rfl⟩
  have SS := desc_new H.below
  have hc0 := SS.c0
  have hc1 := SS.c1
  have hc2 := SS.c2
  have hc3 := SS.c3
  have hc4 := SS.c4
  clear SS
  go_wp2_with fail
  clear hc0 hc1 hc2 hc3 hc4
  refine (toDescriptor_any _ _ _ _ _ _).mono ?_
  rintro e w7' ⟨rfl, b7⟩
  replace H := H.still b7
  clear b7
  go_wp2_with fail
  refine (descToBytes_any _ _ _ _ _ _).mono ?_
  rintro e w8' m8
  rw [HF.out] at m8
  change Makes2 2 _ r0 r1 _ _ at m8
  obtain ⟨p8, c8, rfl, o8, -, b8⟩ := m8.get
  replace H := H.make o8 b8
  clear o8 b8 m8
  go_wp2_with fail
  refine (eq_yes _ _ _ _ _ _ _ _ (H.rd 0 rfl rfl) (H.rd 2 rfl rfl) (by omega)).mono ?_
  rintro e w9' ⟨rfl, b9⟩
  replace H := H.still b9
  clear b9
  go_wp2_with fail
  refine (held_yes _ _ _ _ _ (H.rd 1 rfl (marks_len _ _)) (by omega) (by omega) (by omega)).mono ?_
  rintro e w' ⟨rfl, rfl⟩
  go_wp2_with fail
  go_ret
  exact ⟨rfl, below_two HB0.out H.below⟩
end Go.Proofs.Ytbdfnkhmnglpbaa.fnExactDescriptorToBytes
