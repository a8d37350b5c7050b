/-
  The walk of laws.FnAcknowledged: at every input it returns true and writes nothing that was there.
-/
import Derived.Test.YtkidhilipeoliaaRows
import Derived.Test.YtkidhilipeoliaaM4
import Derived.Test.YtkidhilipeoliaaMA
import Derived.Test.YtkidhilipeoliaaM2
import Derived.Test.YtkidhilipeoliaaVec3
import Derived.Test.YtkidhilipeoliaaDrawC
import Derived.WalkKit
import Derived.ProofKit
import Derived.OpenShut
import Derived.ShutString
import Derived.ChangeOld
import Derived.Below
namespace Go.Proofs.Ytkidhilipeoliaa.fnAcknowledged
open Go.ChangeShapes Go.WideShapes Go.ChangeAt Go.RowKit
open Go.ChangeMaps (open_string shut_string)
set_option linter.unusedVariables false


/-- WHAT THE WALK IS TOLD OF A SLICE OF INTEGERS THAT CAME IN: it is nil; or it leads to a row of 'cap' cells, the numbers 'zs' (the first 'len' are its elements, the rest its spare room), each fitting its kind. -/
def IsRow (k : IntKind) (w : World) (a : Option Addr) (len cap : Nat) (zs : List Int) : Prop :=
  (a = none ∧ len = 0 ∧ cap = 0 ∧ zs = []) ∨
  ∃ x, a = some x ∧ len ≤ cap ∧ cap ≤ maxLen ∧ zs.length = cap ∧ (∀ i, i < zs.length → w.cell? (x.add i) = some (.int k (zs.getD i 0))) ∧ ∀ n ∈ zs, (Lit.int k n).wf = true

/-! ### STEP 1: THE WALK: the Go text returns true, AND WRITES NOTHING THAT WAS THERE: 'Below w.heap.size w w'' (Derived/Below.lean: '.refl', '.alloc', '.drew', '.setCell' at a new block, '.trans'). Open each 'IsRow' by 'rcases' AHEAD of 'go_enter'; part every test ahead of the walk. -/
set_option maxHeartbeats 1000000 in
theorem walk (a0 : Option Addr) (len0 cap0 : Nat) (z0 : List Int) (w : World) (w0 : IsRow .u8 w a0 len0 cap0 z0) :
    Calls Try.prog 6 #[.slice a0 len0 cap0] w fun e w' => e = .returned (.bool true) ∧ Below w.heap.size w w' := by
  have hr := rdB_of_row w0
  clear w0
  generalize List.take len0 z0 = cs at hr
  have HR := Lib.hid hr; clear hr
  by_cases hbig : len0 ≤ 4096
  rotate_left
  · go_enter Try.func6, Try.ntmps6
    go_wp2_with fail
    refine (big_yes _ _ _ _ hbig).mono ?_
    rintro e w' ⟨rfl, rfl⟩
    go_wp2
    go_ret
    exact ⟨rfl, Below.refl _ _⟩
  go_enter Try.func6, Try.ntmps6
  go_wp2_with fail
  refine (big_no _ _ _ _ hbig).mono ?_
  rintro e w' ⟨rfl, rfl⟩
  go_wp2_with fail
  refine (drawAcknowledgeBy_any _ _ _ cs _ HR.out (by omega)).mono ?_
  rintro e w1 ⟨own, k, f, s, rfl, b1⟩
  have B := Lib.hid b1; clear b1
  obtain ⟨r0, r1, hF⟩ : ∃ r0 r1, acknowledgeBy own k f s = (r0, r1) := ⟨_, _, rfl⟩
  have HF := Lib.hid hF; clear hF
  have n0 : (r0 != r0) = false := by simp
  have n1 : (r1 != r1) = false := by simp
  go_wp2_with fail
  refine (acknowledgeBy_any _ _ _ _ _).mono ?_
  rintro e w2 ⟨rfl, b⟩
  rw [HF.out]
  replace B := Lib.hid (below_two B.out b); clear b
  go_wp2_with fail
  refine (sAcknowledgeBy_any _ _ _ _ _).mono ?_
  rintro e w3 ⟨rfl, b⟩
  rw [HF.out]
  replace B := Lib.hid (below_two B.out b); clear b
  by_cases hz : r1 = 0
  rotate_left
  · have t1 : (r1 != 0) = true := by simp [hz]
    clear hz
    go_wp2
    go_ret
    exact ⟨rfl, B.out⟩
  subst hz
  obtain ⟨h1, wo, h2, h3⟩ := ack_round HF.out
  have H1 := Lib.hid h1; have H2 := Lib.hid h2; have H3 := Lib.hid h3
  clear h1 h2 h3
  go_wp2_with fail
  refine (acknowledgeBy_any _ _ _ _ _).mono ?_
  rintro e w4 ⟨rfl, b⟩
  rw [H1.out]
  replace B := Lib.hid (below_two B.out b); clear b
  go_wp2_with fail
  refine (setMember_any _ _ _ _).mono ?_
  rintro e w5 ⟨rfl, b⟩
  rw [H2.out]
  replace B := Lib.hid (below_two B.out b); clear b
  go_wp2_with fail
  refine (acknowledgeBy_any _ _ _ _ _).mono ?_
  rintro e w6 ⟨rfl, b⟩
  rw [H3.out]
  replace B := Lib.hid (below_two B.out b); clear b
  go_wp2
  go_ret
  exact ⟨rfl, B.out⟩


end Go.Proofs.Ytkidhilipeoliaa.fnAcknowledged
