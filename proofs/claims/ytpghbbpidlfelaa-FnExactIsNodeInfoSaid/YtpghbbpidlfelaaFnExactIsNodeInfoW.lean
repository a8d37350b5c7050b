/-
  The walk of laws.FnExactIsNodeInfo: at every input it returns true and writes nothing that was there.
-/
import Derived.Test.YtpghbbpidlfelaaRows
import Derived.Test.YtpghbbpidlfelaaN1
import Derived.WalkKit
import Derived.ProofKit
import Derived.OpenShut
import Derived.ShutString
import Derived.ChangeOld
import Derived.Below
import Derived.Lib.SmallJoins
namespace Go.Proofs.Ytpghbbpidlfelaa.fnExactIsNodeInfo
open Go.ChangeShapes Go.WideShapes Go.ChangeAt Go.RowKit Go.Joins
open Go.ChangeMaps (open_string shut_string)
set_option linter.unusedVariables false
theorem walk (s0_0 : Int) (s0_1 : ByteArray) (s0_2 : Int) (s0_3 : Bool) (w : World) (w0_0 : (Lit.int .i64 s0_0).wf = true) (w0_1 : s0_1.size ≤ maxLen) (w0_2 : (Lit.int .i64 s0_2).wf = true) :
    Calls Try.prog 5 #[.agg #[.int .i64 s0_0, .string s0_1, .int .i64 s0_2, .bool s0_3]] w fun e w' => e = .returned (.bool true) ∧ Below w.heap.size w w' := by
  have hm : s0_1.size ≤ 9223372036854775807 := by unfold maxLen at w0_1; omega
  have hsz := fun W => szNode_any ⟨s0_0, s0_1, s0_2, s0_3⟩ 1048576 W (by omega) (by omega) (show (s0_1.size : Int) ≤ 9223372036854775807 from by omega)
  have hto := fun W => toNode_any ⟨s0_0, s0_1, s0_2, s0_3⟩ W
  unfold ndVal at hsz hto
  dsimp only at hsz hto
  by_cases hbig : s0_1.size ≤ 1048576
  · have hs := fun W => sIsNodeInfo_any ⟨s0_0, s0_1, s0_2, s0_3⟩ W hbig
    have hi := fun W => isNodeInfo_any ⟨s0_0, s0_1, s0_2, s0_3⟩ W hbig
    unfold ndVal at hs hi
    dsimp only at hs hi
    have hif : (if (1048576 : Int) < (s0_1.size : Int) then (-1 : Int) else 1048576 - (s0_1.size : Int)) = 1048576 - (s0_1.size : Int) := if_neg (by omega)
    have hq : ¬ (1048576 - (s0_1.size : Int)) < 0 := by omega
    have HSZ := Lib.hid hsz; have HTO := Lib.hid hto; have HS := Lib.hid hs; have HI := Lib.hid hi
    clear hsz hto hs hi
    have hne : (isNd ⟨s0_0, s0_1, s0_2, s0_3⟩ != isNd ⟨s0_0, s0_1, s0_2, s0_3⟩) = false := bne_self_eq_false _
    go_enter Try.func5, Try.ntmps5
    go_wp2_with fail
    refine (HSZ.out _).mono ?_
    rintro e w1 ⟨rfl, b1⟩
    rw [hif]
    have h1 := nd_new (x := ⟨s0_0, s0_1, s0_2, s0_3⟩) b1
    obtain ⟨c0, c1, c2, c3⟩ := h1.in_
    have H1 := Lib.hid h1; clear h1
    go_wp2_with fail
    refine (HTO.out _).mono ?_
    rintro e w2 ⟨rfl, b2⟩
    clear c0 c1 c2 c3
    have H2 := Lib.hid (H1.out.below b2 H1.out.lt)
    go_wp2_with fail
    refine (HS.out _).mono ?_
    rintro e w3 ⟨rfl, b3⟩
    have H3 := Lib.hid (H2.out.below b3 H2.out.lt)
    obtain ⟨c0, c1, c2, c3⟩ := H3.out.in_
    go_wp2_with fail
    refine (HTO.out _).mono ?_
    rintro e w4 ⟨rfl, b4⟩
    clear c0 c1 c2 c3
    go_wp2_with fail
    refine (HI.out _).mono ?_
    rintro e w5 ⟨rfl, b5⟩
    go_wp2_with fail
    go_ret
    exact ⟨rfl, below_two (below_two (below_two (below_two (below_two ((Below.refl _ _).alloc (Nat.le_refl _) _) b1) b2) b3) b4) b5⟩
  · have hif : (if (1048576 : Int) < (s0_1.size : Int) then (-1 : Int) else 1048576 - (s0_1.size : Int)) = -1 := if_pos (by omega)
    have HSZ := Lib.hid hsz
    clear hsz hto
    go_enter Try.func5, Try.ntmps5
    go_wp2_with fail
    refine (HSZ.out _).mono ?_
    rintro e w1 ⟨rfl, b1⟩
    rw [hif]
    go_wp2_with fail
    go_ret
    exact ⟨rfl, below_two ((Below.refl _ _).alloc (Nat.le_refl _) _) b1⟩
end Go.Proofs.Ytpghbbpidlfelaa.fnExactIsNodeInfo
