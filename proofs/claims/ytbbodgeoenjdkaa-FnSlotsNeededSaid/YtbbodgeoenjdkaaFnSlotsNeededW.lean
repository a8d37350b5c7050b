/-
  The walk of laws.FnSlotsNeeded: at every input it returns true and writes nothing that was there.
-/
import Derived.Test.YtbbodgeoenjdkaaRows
import Derived.Test.YtbbodgeoenjdkaaPl9
import Derived.Test.YtbbodgeoenjdkaaPlS6
import Derived.Test.YtbbodgeoenjdkaaPlF
import Derived.Test.YtbbodgeoenjdkaaPlG
import Derived.Test.YtbbodgeoenjdkaaDrawB
import Derived.WalkKit
import Derived.ProofKit
import Derived.OpenShut
import Derived.ShutString
import Derived.ChangeOld
import Derived.Below
namespace Go.Proofs.Ytbbodgeoenjdkaa.fnSlotsNeeded
open Go.ChangeShapes Go.WideShapes Go.ChangeAt Go.RowKit
open Go.ChangeMaps (open_string shut_string)
set_option linter.unusedVariables false


/-- WHAT THE WALK IS TOLD OF A SLICE OF INTEGERS THAT CAME IN: it is nil; or it leads to a row of 'cap' cells, the numbers 'zs' (the first 'len' are its elements, the rest its spare room), each fitting its kind. -/
def IsRow (k : IntKind) (w : World) (a : Option Addr) (len cap : Nat) (zs : List Int) : Prop :=
  (a = none ∧ len = 0 ∧ cap = 0 ∧ zs = []) ∨
  ∃ x, a = some x ∧ len ≤ cap ∧ cap ≤ maxLen ∧ zs.length = cap ∧ (∀ i, i < zs.length → w.cell? (x.add i) = some (.int k (zs.getD i 0))) ∧ ∀ n ∈ zs, (Lit.int k n).wf = true

/-! ### STEP 1: THE WALK: the Go text returns true, AND WRITES NOTHING THAT WAS THERE: 'Below w.heap.size w w'' (Derived/Below.lean: '.refl', '.alloc', '.drew', '.setCell' at a new block, '.trans'). Open each 'IsRow' by 'rcases' AHEAD of 'go_enter'; part every test ahead of the walk. -/
set_option maxRecDepth 100000 in set_option maxHeartbeats 4000000 in set_option linter.unusedSimpArgs false in
theorem walk (a0 : Option Addr) (len0 cap0 : Nat) (z0 : List Int) (w : World) (w0 : IsRow .u8 w a0 len0 cap0 z0) :
    Calls Try.prog 5 #[.slice a0 len0 cap0] w fun e w' => e = .returned (.bool true) ∧ Below w.heap.size w w' := by
  have hr := rdB_of_row w0
  clear w0
  generalize List.take len0 z0 = cs at hr
  have HR := Lib.hid hr; clear hr
  by_cases hbig : len0 ≤ 4096
  rotate_left
  · go_enter Try.func5, Try.ntmps5
    go_wp2_with fail
    refine (big_yes _ _ _ _ hbig).mono ?_
    rintro e w' ⟨rfl, rfl⟩
    go_wp2
    go_ret
    exact ⟨rfl, Below.refl _ _⟩
  go_enter Try.func5, Try.ntmps5
  go_wp2_with fail
  refine (big_no _ _ _ _ hbig).mono ?_
  rintro e w' ⟨rfl, rfl⟩
  go_wp2_with fail
  refine (drawSlotsNeeded_any _ _ _ cs _ HR.out (by omega)).mono ?_
  rintro e w1 ⟨v, t, R, rfl, oT, hl, b1⟩
  obtain ⟨pT, cT, rfl, -, rT⟩ := oT.get
  have HT := Lib.hid rT; have HB1 := Lib.hid b1
  have htl : t.length ≤ 1048576 := by omega
  clear oT b1 rT
  obtain ⟨q, c, hF⟩ : ∃ q c, slotsNeeded t R = (q, c) := ⟨_, _, rfl⟩
  have HF := Lib.hid hF; clear hF
  go_wp2_with fail
  refine (slotsNeededI_any _ _ _ _ _ _ HT.out (by omega)).mono ?_
  rintro e w2 ⟨rfl, b2⟩
  have HB2 := Lib.hid (below_two HB1.out b2); have HT2 := Lib.hid (HT.out.below b2)
  clear b2 HT HB1
  rw [HF.out]
  go_wp2_with fail
  refine (slotsNeededS_any _ _ _ _ _ _ HT2.out htl).mono ?_
  rintro e w3 ⟨rfl, b3⟩
  have HB3 := Lib.hid (below_two HB2.out b3); have HT3 := Lib.hid (HT2.out.below b3)
  clear b3 HT2 HB2
  rw [HF.out]
  have hq : (q != q) = false := by simp
  have hcc : (c != c) = false := by simp
  by_cases hc : c = 0
  rotate_left
  · have hne : (c != 0) = true := by simpa using hc
    clear hc
    go_wp2
    go_ret
    exact ⟨rfl, HB3.out⟩
  subst hc
  obtain ⟨h1, h2, h3⟩ := needed_law HF.out
  have H1 := Lib.hid h1; have H2 := Lib.hid h2; have HQ := Lib.hid h3
  have hq1 : 1 ≤ q := h3.1
  have hq2 : q ≤ 16 := h3.2
  clear h1 h2 h3
  go_wp2_with fail
  refine (planDemandsI_any _ _ _ _ _ _ _ HT3.out (by omega)).mono ?_
  rintro e w4 m4
  obtain ⟨p4, c4, rfl, o4, -, b4⟩ := m4.get
  have HB4 := Lib.hid (below_two HB3.out b4); have HT4 := Lib.hid (HT3.out.below b4)
  clear b4 HT3 HB3 o4
  rw [H1.out]
  generalize (planDemands t R q).1.length = l4
  go_wp2_with fail
  refine (planDemandsI_any _ _ _ _ _ _ _ HT4.out (by omega)).mono ?_
  rintro e w5 m5
  obtain ⟨p5, c5, rfl, o5, -, b5⟩ := m5.get
  have HB5 := Lib.hid (below_two HB4.out b5)
  clear b5 HT4 HB4 o5
  generalize (planDemands t R (q - 1)).1.length = l5
  by_cases he : q = 1
  · subst he
    generalize (planDemands t R (1 - 1)).2 = z5
    go_wp2
    go_ret
    exact ⟨rfl, HB5.out⟩
  · rw [H2.out he]
    have hne : (q == 1) = false := by simpa using he
    clear he
    go_wp2
    go_ret
    exact ⟨rfl, HB5.out⟩


end Go.Proofs.Ytbbodgeoenjdkaa.fnSlotsNeeded
