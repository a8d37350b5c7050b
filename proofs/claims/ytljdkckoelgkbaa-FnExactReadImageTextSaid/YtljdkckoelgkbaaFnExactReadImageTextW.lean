/-
  The walk of laws.FnExactReadImageText: at every input it returns true and writes nothing that was there.
-/
import Derived.Test.YtljdkckoelgkbaaRows
import Derived.Test.YtljdkckoelgkbaaImS
import Derived.WalkKit
import Derived.ProofKit
import Derived.OpenShut
import Derived.ShutString
namespace Go.Proofs.Ytljdkckoelgkbaa.fnExactReadImageText
open Go.ChangeShapes Go.WideShapes Go.ChangeAt Go.RowKit
open Go.ChangeMaps (open_string shut_string)
set_option linter.unusedVariables false      -- a walk need not use every 'w<i>' (that an integer argument fits its kind)


/-! ### STEP 1: THE WALK: the Go text returns true. 'Grown w w'': the world has at most new blocks (Derived/RowKit3.lean). Part the cases AHEAD of 'go_enter' where a test parts the walk; take each callee by a contract of your own. -/
theorem walk (a0 : ByteArray) (w0 : a0.size ≤ maxLen) (w : World) :
    Calls Try.prog 6 #[.string a0] w fun e w' => e = .returned (.bool true) ∧ Below w.heap.size w w' := by
  by_cases hbig0 : a0.size ≤ 1048576
  · skip
    obtain ⟨r0, r1, hF⟩ : ∃ r0 r1, readImageText (nums a0) = (r0, r1) := ⟨_, _, rfl⟩
    have hlen : r0.length ≤ 1048576 := by have h := readImageText_len (nums a0); rw [hF] at h; exact Nat.le_trans h (by omega)
    have HF := Lib.hid hF; clear hF
    have H : Held 2 w w [] := Held.start
    go_enter Try.func6, Try.ntmps6
    go_wp2_with fail
    refine (sReadImageText_any _ _ hbig0).mono ?_
    rintro e w1' m1
    rw [HF.out] at m1
    change MakesB 2 _ r0 r1 _ _ at m1
    obtain ⟨p1, c1, rfl, o1, -, b1⟩ := m1.get
    replace H := H.make o1 b1
    clear o1 b1 m1
    go_wp2_with fail
    refine (readImageText_any _ _ hbig0).mono ?_
    rintro e w2' m2
    rw [HF.out] at m2
    change MakesB 2 _ r0 r1 _ _ at m2
    obtain ⟨p2, c2, rfl, o2, -, b2⟩ := m2.get
    replace H := H.make o2 b2
    clear o2 b2 m2
    go_wp2_with fail
    refine (eq_yes _ _ _ _ _ _ _ _ (H.rd 0 rfl rfl) (H.rd 1 rfl rfl) (by omega)).mono ?_
    rintro e w3' ⟨rfl, b3⟩
    replace H := H.still b3
    clear b3
    go_wp2_with fail
    refine (mark_own _ _ _ _ _ _ _ rfl (H.get 0 rfl) (by omega) (by omega) (by omega)).mono ?_
    rintro e w4' ⟨rfl, o4, g4⟩
    replace H := H.mark [] o4 g4
    clear o4 g4
    go_wp2_with fail
    refine (held_yes _ _ _ _ _ (H.rd 0 rfl (marks_len _ _)) (by omega) (by omega) (by omega)).mono ?_
    rintro e w' ⟨rfl, rfl⟩
    go_wp2_with fail
    refine (readImageText_any _ _ hbig0).mono ?_
    rintro e w5' m5
    rw [HF.out] at m5
    change MakesB 2 _ r0 r1 _ _ at m5
    obtain ⟨p5, c5, rfl, o5, -, b5⟩ := m5.get
    replace H := H.make o5 b5
    clear o5 b5 m5
    go_wp2_with fail
    refine (eq_yes _ _ _ _ _ _ _ _ (H.rd 0 rfl rfl) (H.rd 2 rfl rfl) (by omega)).mono ?_
    rintro e w6' ⟨rfl, b6⟩
    replace H := H.still b6
    clear b6
    go_wp2_with fail
    refine (held_yes _ _ _ _ _ (H.rd 1 rfl (marks_len _ _)) (by omega) (by omega) (by omega)).mono ?_
    rintro e w' ⟨rfl, rfl⟩
    go_wp2_with fail
    go_ret
    exact ⟨rfl, H.below⟩
  · go_enter Try.func6, Try.ntmps6
    go_wp2
    go_ret
    exact ⟨rfl, Below.refl _ _⟩
  -- go_enter Try.func6, Try.ntmps6
  -- go_wp2
  -- go_ret
  -- exact ⟨rfl, by repeat (first | exact Grown.refl _ | apply Grown.drew | apply Grown.alloc)⟩


end Go.Proofs.Ytljdkckoelgkbaa.fnExactReadImageText
