/-
  The walk of laws.FnNumbers: at every input it returns true and writes nothing that was there.
-/
import Derived.Test.YtbbankbamjnlcaaRows
import Derived.Test.YtbbankbamjnlcaaLike
import Derived.WalkKit
import Derived.ProofKit
import Derived.OpenShut
import Derived.ShutString
import Derived.ChangeOld
import Derived.Below
namespace Go.Proofs.Ytbbankbamjnlcaa.fnNumbers
open Go.ChangeShapes Go.WideShapes Go.ChangeAt Go.RowKit
open Go.ChangeMaps (open_string shut_string)
set_option linter.unusedVariables false


/-- WHAT THE WALK IS TOLD OF A SLICE OF INTEGERS THAT CAME IN: it is nil; or it leads to a row of 'cap' cells, the numbers 'zs' (the first 'len' are its elements, the rest its spare room), each fitting its kind. -/
def IsRow (k : IntKind) (w : World) (a : Option Addr) (len cap : Nat) (zs : List Int) : Prop :=
  (a = none ∧ len = 0 ∧ cap = 0 ∧ zs = []) ∨
  ∃ x, a = some x ∧ len ≤ cap ∧ cap ≤ maxLen ∧ zs.length = cap ∧ (∀ i, i < zs.length → w.cell? (x.add i) = some (.int k (zs.getD i 0))) ∧ ∀ n ∈ zs, (Lit.int k n).wf = true

/-! ### STEP 1: THE WALK: the Go text returns true, AND WRITES NOTHING THAT WAS THERE: 'Below w.heap.size w w'' (Derived/Below.lean: '.refl', '.alloc', '.drew', '.setCell' at a new block, '.trans'). Open each 'IsRow' by 'rcases' AHEAD of 'go_enter'; part every test ahead of the walk. -/
theorem walk (a0 : Option Addr) (len0 cap0 : Nat) (z0 : List Int) (w : World) (w0 : IsRow .u8 w a0 len0 cap0 z0) :
    Calls Try.prog 3 #[.slice a0 len0 cap0] w fun e w' => e = .returned (.bool true) ∧ Below w.heap.size w w' := by
  have hr := rdB_of_row w0
  clear w0
  generalize List.take len0 z0 = cs at hr
  have HR := Lib.hid hr; clear hr
  by_cases hbig : len0 ≤ 4096
  · go_enter Try.func3, Try.ntmps3
    go_wp2_with fail
    refine (big_no _ _ _ _ hbig).mono ?_
    rintro e w' ⟨rfl, rfl⟩
    go_wp2_with fail
    refine (drawAppendNumber_any _ _ _ cs _ HR.out (by omega)).mono ?_
    rintro e w1 ⟨v1, xs, val, width, rfl, o1, hxl, b1⟩
    obtain ⟨p1, c1, rfl, o1, -⟩ := o1.get
    have H : Held 2 w w1 _ := Held.start.make o1 b1
    clear o1 b1
    obtain ⟨r0, r1, hF⟩ : ∃ r0 r1, appendNumber xs val width = (r0, r1) := ⟨_, _, rfl⟩
    have HF := Lib.hid hF; clear hF
    have hrl : r0.length ≤ 8192 := by have h := appendNumber_len xs val width; rw [HF.out] at h; exact h
    go_wp2_with fail
    refine (appendNumber_any _ _ _ _ _ _ (H.rd 0 rfl rfl) (by omega)).mono ?_
    rintro e w2 m2
    rw [HF.out] at m2
    change Makes2 2 _ r0 r1 _ _ at m2
    obtain ⟨p2, c2, rfl, o2, -, b2⟩ := m2.get
    replace H := H.make o2 b2
    clear o2 b2 m2
    go_wp2_with fail
    refine (sAppendNumber_any _ _ _ _ _ _ (H.rd 1 rfl rfl) (by omega)).mono ?_
    rintro e w3 m3
    rw [HF.out] at m3
    change Makes2 2 _ r0 r1 _ _ at m3
    obtain ⟨p3, c3, rfl, o3, -, b3⟩ := m3.get
    replace H := H.make o3 b3
    clear o3 b3 m3
    go_wp2_with fail
    refine (like_yes _ _ _ _ _ _ _ _ (H.rd 1 rfl rfl) (H.rd 0 rfl rfl) (by omega)).mono ?_
    rintro e w4 ⟨rfl, b4⟩
    replace H := H.still b4
    clear b4
    by_cases hr1 : r1 = 0
    · subst hr1
      obtain ⟨-, hle, htk, hna⟩ := number_round HF.out
      have HTK := Lib.hid htk; clear htk
      have HNA := Lib.hid hna; clear hna
      have hcap := (H.get 1 rfl).cap
      obtain ⟨hcap1, hcap2⟩ := hcap
      go_wp2_with fail
      refine (numberAt_any _ _ _ _ _ _ (H.rd 1 rfl rfl) (by omega) hcap1 hcap2).mono ?_
      rintro e w' ⟨rfl, rfl⟩
      rw [HNA.out]
      have hpre := (H.rd 1 rfl rfl).front hle
      rw [HTK.out] at hpre
      go_wp2_with fail
      refine (like_yes _ _ _ _ _ _ _ _ hpre (H.rd 2 rfl rfl) (by omega)).mono ?_
      rintro e w5 ⟨rfl, b5⟩
      replace H := H.still b5
      go_wp2_with fail
      go_ret
      exact ⟨rfl, H.below⟩
    · have t1 : (r1 != 0) = true := by simp [hr1]
      clear hr1
      go_wp2_with fail
      go_ret
      exact ⟨rfl, H.below⟩
  · go_enter Try.func3, Try.ntmps3
    go_wp2_with fail
    refine (big_yes _ _ _ _ hbig).mono ?_
    rintro e w' ⟨rfl, rfl⟩
    go_wp2
    go_ret
    exact ⟨rfl, Below.refl _ _⟩


end Go.Proofs.Ytbbankbamjnlcaa.fnNumbers
