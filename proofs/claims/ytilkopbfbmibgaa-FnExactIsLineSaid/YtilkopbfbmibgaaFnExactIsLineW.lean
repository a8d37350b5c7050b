/-
  The walk of laws.FnExactIsLine: at every input it returns true and writes nothing that was there.
-/
import Derived.Test.YtilkopbfbmibgaaRows
import Derived.Test.YtilkopbfbmibgaaLi7
import Derived.Test.YtilkopbfbmibgaaBase
import Derived.WalkKit
import Derived.ProofKit
import Derived.OpenShut
import Derived.ShutString
import Derived.ChangeOld
import Derived.Below
namespace Go.Proofs.Ytilkopbfbmibgaa.fnExactIsLine
open Go.ChangeShapes Go.WideShapes Go.ChangeAt Go.RowKit
open Go.ChangeMaps (open_string shut_string)
set_option linter.unusedVariables false


/-- WHAT THE WALK IS TOLD OF A SLICE OF INTEGERS THAT CAME IN: it is nil; or it leads to a row of 'cap' cells, the numbers 'zs' (the first 'len' are its elements, the rest its spare room), each fitting its kind. -/
def IsRow (k : IntKind) (w : World) (a : Option Addr) (len cap : Nat) (zs : List Int) : Prop :=
  (a = none ∧ len = 0 ∧ cap = 0 ∧ zs = []) ∨
  ∃ x, a = some x ∧ len ≤ cap ∧ cap ≤ maxLen ∧ zs.length = cap ∧ (∀ i, i < zs.length → w.cell? (x.add i) = some (.int k (zs.getD i 0))) ∧ ∀ n ∈ zs, (Lit.int k n).wf = true

/-! ### STEP 1: THE WALK: the Go text returns true, AND WRITES NOTHING THAT WAS THERE: 'Below w.heap.size w w'' (Derived/Below.lean: '.refl', '.alloc', '.drew', '.setCell' at a new block, '.trans'). Open each 'IsRow' by 'rcases' AHEAD of 'go_enter'; part every test ahead of the walk. -/
theorem walk (a0 : Option Addr) (len0 cap0 : Nat) (z0 : List Int) (w : World) (w0 : IsRow .i64 w a0 len0 cap0 z0) :
    Calls Try.prog 9 #[.slice a0 len0 cap0] w fun e w' => e = .returned (.bool true) ∧ Below w.heap.size w w' := by
  have hr0 := rd_of_row w0
  clear w0
  generalize List.take len0 z0 = x0 at hr0
  obtain rfl : x0.length = len0 := hr0.len
  by_cases hbig0 : x0.length ≤ 1048576
  · skip
    obtain ⟨r0, hF⟩ : ∃ r0, isLine x0 = r0 := ⟨_, rfl⟩
    have HF := Lib.hid hF; clear hF
    have H : Held 2 w w [] := Held.start
    go_enter Try.func9, Try.ntmps9
    go_wp2_with fail
    refine (toInt_any _ _ _ _ _ (hr0.below H.below) hbig0).mono ?_
    rintro e w1' m1
    obtain ⟨p1, c1, rfl, o1, -, b1⟩ := m1.get
    replace H := H.make o1 b1
    clear o1 b1 m1
    go_wp2_with fail
    refine (sIsLine_any _ _ _ _ (H.rd 0 rfl rfl) hbig0).mono ?_
    rintro e w2' ⟨rfl, b2⟩
    replace H := H.still b2
    clear b2
    rw [HF.out]
    go_wp2_with fail
    refine (toInt_any _ _ _ _ _ (hr0.below H.below) hbig0).mono ?_
    rintro e w3' m3
    obtain ⟨p3, c3, rfl, o3, -, b3⟩ := m3.get
    replace H := H.make o3 b3
    clear o3 b3 m3
    go_wp2_with fail
    refine (isLine_any _ _ _ _ (H.rd 0 rfl rfl) hbig0 (Own.cap (H.get 0 rfl)).1 (Own.cap (H.get 0 rfl)).2).mono ?_
    rintro e w4' ⟨rfl, b4⟩
    replace H := H.still b4
    clear b4
    rw [HF.out]
    go_wp2_with fail
    refine (toInt_any _ _ _ _ _ (hr0.below H.below) hbig0).mono ?_
    rintro e w5' m5
    obtain ⟨p5, c5, rfl, o5, -, b5⟩ := m5.get
    replace H := H.make o5 b5
    clear o5 b5 m5
    go_wp2_with fail
    refine (eq_yes _ _ _ _ _ _ _ _ (H.rd 1 rfl rfl) (H.rd 0 rfl rfl) (by omega)).mono ?_
    rintro e w6' ⟨rfl, b6⟩
    replace H := H.still b6
    clear b6
    go_wp2_with fail
    go_ret
    exact ⟨rfl, H.below⟩
  · go_enter Try.func9, Try.ntmps9
    go_wp2
    go_ret
    exact ⟨rfl, Below.refl _ _⟩


end Go.Proofs.Ytilkopbfbmibgaa.fnExactIsLine
