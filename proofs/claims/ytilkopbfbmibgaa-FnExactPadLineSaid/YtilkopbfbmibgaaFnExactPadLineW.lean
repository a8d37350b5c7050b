/-
  The walk of laws.FnExactPadLine: at every input it returns true and writes nothing that was there.
-/
import Derived.Test.YtilkopbfbmibgaaRows
import Derived.Test.YtilkopbfbmibgaaLiB
import Derived.Test.YtilkopbfbmibgaaBase
import Derived.WalkKit
import Derived.ProofKit
import Derived.OpenShut
import Derived.ShutString
import Derived.ChangeOld
import Derived.Below
namespace Go.Proofs.Ytilkopbfbmibgaa.fnExactPadLine
open Go.ChangeShapes Go.WideShapes Go.ChangeAt Go.RowKit
open Go.ChangeMaps (open_string shut_string)
set_option linter.unusedVariables false


/-- WHAT THE WALK IS TOLD OF A SLICE OF INTEGERS THAT CAME IN: it is nil; or it leads to a row of 'cap' cells, the numbers 'zs' (the first 'len' are its elements, the rest its spare room), each fitting its kind. -/
def IsRow (k : IntKind) (w : World) (a : Option Addr) (len cap : Nat) (zs : List Int) : Prop :=
  (a = none ∧ len = 0 ∧ cap = 0 ∧ zs = []) ∨
  ∃ x, a = some x ∧ len ≤ cap ∧ cap ≤ maxLen ∧ zs.length = cap ∧ (∀ i, i < zs.length → w.cell? (x.add i) = some (.int k (zs.getD i 0))) ∧ ∀ n ∈ zs, (Lit.int k n).wf = true

/-! ### STEP 1: THE WALK: the Go text returns true, AND WRITES NOTHING THAT WAS THERE: 'Below w.heap.size w w'' (Derived/Below.lean: '.refl', '.alloc', '.drew', '.setCell' at a new block, '.trans'). Open each 'IsRow' by 'rcases' AHEAD of 'go_enter'; part every test ahead of the walk. -/
theorem walk (a0 : Option Addr) (len0 cap0 : Nat) (z0 : List Int) (a1 : Int) (a2 : Int) (w : World) (w0 : IsRow .i64 w a0 len0 cap0 z0) (w1 : (Lit.int .i64 a1).wf = true) (w2 : (Lit.int .i64 a2).wf = true) :
    Calls Try.prog 10 #[.slice a0 len0 cap0, .int .i64 a1, .int .i64 a2] w fun e w' => e = .returned (.bool true) ∧ Below w.heap.size w w' := by
  have hr0 := rd_of_row w0
  clear w0
  generalize List.take len0 z0 = x0 at hr0
  obtain rfl : x0.length = len0 := hr0.len
  by_cases hbig0 : x0.length ≤ 1048576
  · skip
    obtain ⟨r0, r1, hF⟩ : ∃ r0 r1, padLine x0 a1 a2 = (r0, r1) := ⟨_, _, rfl⟩
    have hlen : r0.length ≤ 1048576 := by have h := padLine_len x0 a1 a2; rw [hF] at h; exact Nat.le_trans h (by omega)
    have HF := Lib.hid hF; clear hF
    have H : Held 2 w w [] := Held.start
    go_enter Try.func10, Try.ntmps10
    go_wp2_with fail
    refine (toInt_any _ _ _ _ _ (hr0.below H.below) hbig0).mono ?_
    rintro e w1' m1
    obtain ⟨p1, c1, rfl, o1, -, b1⟩ := m1.get
    replace H := H.make o1 b1
    clear o1 b1 m1
    go_wp2_with fail
    refine (sPadLine_any _ _ _ _ _ _ (H.rd 0 rfl rfl) hbig0).mono ?_
    rintro e w2' m2
    rw [HF.out] at m2
    change Makes2 2 _ r0 r1 _ _ at m2
    obtain ⟨p2, c2, rfl, o2, -, b2⟩ := m2.get
    replace H := H.make o2 b2
    clear o2 b2 m2
    go_wp2_with fail
    refine (toInt_any _ _ _ _ _ (hr0.below H.below) hbig0).mono ?_
    rintro e w3' m3
    obtain ⟨p3, c3, rfl, o3, -, b3⟩ := m3.get
    replace H := H.make o3 b3
    clear o3 b3 m3
    go_wp2_with fail
    refine (padLine_any _ _ _ _ _ _ (H.rd 0 rfl rfl) hbig0).mono ?_
    rintro e w4' m4
    rw [HF.out] at m4
    change Makes2 2 _ r0 r1 _ _ at m4
    obtain ⟨p4, c4, rfl, o4, -, b4⟩ := m4.get
    replace H := H.make o4 b4
    clear o4 b4 m4
    go_wp2_with fail
    refine (eq_yes _ _ _ _ _ _ _ _ (H.rd 0 rfl rfl) (H.rd 2 rfl rfl) (by omega)).mono ?_
    rintro e w5' ⟨rfl, b5⟩
    replace H := H.still b5
    clear b5
    go_wp2_with fail
    refine (toInt_any _ _ _ _ _ (hr0.below H.below) hbig0).mono ?_
    rintro e w6' m6
    obtain ⟨p6, c6, rfl, o6, -, b6⟩ := m6.get
    replace H := H.make o6 b6
    clear o6 b6 m6
    go_wp2_with fail
    refine (eq_yes _ _ _ _ _ _ _ _ (H.rd 2 rfl rfl) (H.rd 0 rfl rfl) (by omega)).mono ?_
    rintro e w7' ⟨rfl, b7⟩
    replace H := H.still b7
    clear b7
    go_wp2_with fail
    refine (mark_own _ _ _ _ _ _ _ rfl (H.get 2 rfl) (by omega) (by omega) (by omega)).mono ?_
    rintro e w8' ⟨rfl, o8, g8⟩
    replace H := H.mark [(Value.slice p6 x0.length c6, x0), (Value.slice p4 r0.length c4, r0)] o8 g8
    clear o8 g8
    go_wp2_with fail
    refine (eq_yes _ _ _ _ _ _ _ _ (H.rd 1 rfl rfl) (H.rd 3 rfl rfl) (by omega)).mono ?_
    rintro e w9' ⟨rfl, b9⟩
    replace H := H.still b9
    clear b9
    go_wp2_with fail
    refine (mark_own _ _ _ _ _ _ _ rfl (H.get 1 rfl) (by omega) (by omega) (by omega)).mono ?_
    rintro e w10' ⟨rfl, o10, g10⟩
    replace H := H.mark [(Value.slice p6 x0.length c6, x0)] o10 g10
    clear o10 g10
    go_wp2_with fail
    refine (held_yes _ _ _ _ _ (H.rd 1 rfl (marks_len _ _)) (by omega) (by omega) (by omega)).mono ?_
    rintro e w' ⟨rfl, rfl⟩
    go_wp2_with fail
    refine (toInt_any _ _ _ _ _ (hr0.below H.below) hbig0).mono ?_
    rintro e w11' m11
    obtain ⟨p11, c11, rfl, o11, -, b11⟩ := m11.get
    replace H := H.make o11 b11
    clear o11 b11 m11
    go_wp2_with fail
    refine (padLine_any _ _ _ _ _ _ (H.rd 0 rfl rfl) hbig0).mono ?_
    rintro e w12' m12
    rw [HF.out] at m12
    change Makes2 2 _ r0 r1 _ _ at m12
    obtain ⟨p12, c12, rfl, o12, -, b12⟩ := m12.get
    replace H := H.make o12 b12
    clear o12 b12 m12
    go_wp2_with fail
    refine (eq_yes _ _ _ _ _ _ _ _ (H.rd 0 rfl rfl) (H.rd 5 rfl rfl) (by omega)).mono ?_
    rintro e w13' ⟨rfl, b13⟩
    replace H := H.still b13
    clear b13
    go_wp2_with fail
    refine (held_yes _ _ _ _ _ (H.rd 3 rfl (marks_len _ _)) (by omega) (by omega) (by omega)).mono ?_
    rintro e w' ⟨rfl, rfl⟩
    go_wp2_with fail
    go_ret
    exact ⟨rfl, H.below⟩
  · go_enter Try.func10, Try.ntmps10
    go_wp2
    go_ret
    exact ⟨rfl, Below.refl _ _⟩


end Go.Proofs.Ytilkopbfbmibgaa.fnExactPadLine
