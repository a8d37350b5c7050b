/-
  The walk of laws.FnNumbersAt: at every input it returns true and writes nothing that was there.
-/
import Derived.Test.YtbbankbamjnlcaaRows
import Derived.Test.YtbbankbamjnlcaaLike
import Derived.WalkKit
import Derived.ProofKit
import Derived.OpenShut
import Derived.ShutString
import Derived.ChangeOld
import Derived.Below
namespace Go.Proofs.Ytbbankbamjnlcaa.fnNumbersAt
open Go.ChangeShapes Go.WideShapes Go.ChangeAt Go.RowKit
open Go.ChangeMaps (open_string shut_string)
set_option linter.unusedVariables false


/-- WHAT THE WALK IS TOLD OF A SLICE OF INTEGERS THAT CAME IN: it is nil; or it leads to a row of 'cap' cells, the numbers 'zs' (the first 'len' are its elements, the rest its spare room), each fitting its kind. -/
def IsRow (k : IntKind) (w : World) (a : Option Addr) (len cap : Nat) (zs : List Int) : Prop :=
  (a = none ∧ len = 0 ∧ cap = 0 ∧ zs = []) ∨
  ∃ x, a = some x ∧ len ≤ cap ∧ cap ≤ maxLen ∧ zs.length = cap ∧ (∀ i, i < zs.length → w.cell? (x.add i) = some (.int k (zs.getD i 0))) ∧ ∀ n ∈ zs, (Lit.int k n).wf = true

/-! ### STEP 1: THE WALK: the Go text returns true, AND WRITES NOTHING THAT WAS THERE: 'Below w.heap.size w w'' (Derived/Below.lean: '.refl', '.alloc', '.drew', '.setCell' at a new block, '.trans'). Open each 'IsRow' by 'rcases' AHEAD of 'go_enter'; part every test ahead of the walk. -/
theorem walk (a0 : Option Addr) (len0 cap0 : Nat) (z0 : List Int) (w : World) (w0 : IsRow .u8 w a0 len0 cap0 z0) :
    Calls Try.prog 4 #[.slice a0 len0 cap0] w fun e w' => e = .returned (.bool true) ∧ Below w.heap.size w w' := by
  have hr := rdB_of_row w0
  clear w0
  generalize List.take len0 z0 = cs at hr
  have HR := Lib.hid hr; clear hr
  by_cases hbig : len0 ≤ 4096
  · go_enter Try.func4, Try.ntmps4
    go_wp2_with fail
    refine (big_no _ _ _ _ hbig).mono ?_
    rintro e w' ⟨rfl, rfl⟩
    go_wp2_with fail
    refine (drawNumberAt_any _ _ _ cs _ HR.out (by omega)).mono ?_
    rintro e w1 ⟨v1, xs, at_, width, rfl, o1, hxl, b1⟩
    obtain ⟨p1, c1, rfl, o1, -⟩ := o1.get
    have H : Held 2 w w1 _ := Held.start.make o1 b1
    clear o1 b1
    have hcap := (H.get 0 rfl).cap
    obtain ⟨hcap1, hcap2⟩ := hcap
    obtain ⟨x, c, hF⟩ : ∃ x c, numberAt xs at_ width = (x, c) := ⟨_, _, rfl⟩
    have HF := Lib.hid hF; clear hF
    go_wp2_with fail
    refine (numberAt_any _ _ _ _ _ _ (H.rd 0 rfl rfl) (by omega) hcap1 hcap2).mono ?_
    rintro e w' ⟨rfl, rfl⟩
    rw [HF.out]
    go_wp2_with fail
    refine (sNumberAt_any _ _ _ _ _ _ (H.rd 0 rfl rfl) (by omega)).mono ?_
    rintro e w' ⟨rfl, rfl⟩
    rw [HF.out]
    by_cases hc0 : c = 0
    · subst hc0
      obtain ⟨a, wd, rfl, rfl, haw, -, hwd, hap⟩ := number_back HF.out
      have hyl : (xs.take (a + wd)).length = a + wd := by rw [List.length_take]; omega
      have hpre := (H.rd 0 rfl rfl).front haw
      obtain ⟨ys, hys⟩ : ∃ ys, ys = xs.take (a + wd) := ⟨_, rfl⟩
      rw [← hys] at hap hyl hpre
      have hyn : ys.length ≤ 1048576 := by omega
      have HAP := Lib.hid hap; clear hap hyl hys
      go_wp2_with fail
      refine (appendNumber_at _ _ _ _ _ _ _ ((H.rd 0 rfl rfl).front (by omega)) (by omega)).mono ?_
      rintro e w2 m2
      rw [HAP.out] at m2
      change Makes2 2 _ ys 0 _ _ at m2
      obtain ⟨p2, c2, rfl, o2, -, b2⟩ := m2.get
      replace H := H.make o2 b2
      replace hpre := hpre.below b2
      clear o2 b2 m2
      go_wp2_with fail
      refine (like_yes _ _ _ _ _ _ _ _ (H.rd 0 rfl rfl) hpre (by omega)).mono ?_
      rintro e w5 ⟨rfl, b5⟩
      replace H := H.still b5
      go_wp2_with fail
      go_ret
      exact ⟨rfl, H.below⟩
    · have t1 : (c != 0) = true := by simp [hc0]
      clear hc0
      go_wp2_with fail
      go_ret
      exact ⟨rfl, H.below⟩
  · go_enter Try.func4, Try.ntmps4
    go_wp2_with fail
    refine (big_yes _ _ _ _ hbig).mono ?_
    rintro e w' ⟨rfl, rfl⟩
    go_wp2
    go_ret
    exact ⟨rfl, Below.refl _ _⟩


end Go.Proofs.Ytbbankbamjnlcaa.fnNumbersAt
