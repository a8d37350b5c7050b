/-
  The walk of laws.FnAgreed: at every input it returns true and writes nothing that was there.
-/
import Derived.Test.YtkidhilipeoliaaRows
import Derived.Test.YtkidhilipeoliaaM7
import Derived.Test.YtkidhilipeoliaaM9
import Derived.Test.YtkidhilipeoliaaVec3
import Derived.Test.YtkidhilipeoliaaDrawC
import Derived.Test.YtkidhilipeoliaaLawC
import Derived.Test.YtkidhilipeoliaaBase
import Derived.WalkKit
import Derived.ProofKit
import Derived.OpenShut
import Derived.ShutString
import Derived.ChangeOld
import Derived.Below
namespace Go.Proofs.Ytkidhilipeoliaa.fnAgreed
open Go.ChangeShapes Go.WideShapes Go.ChangeAt Go.RowKit
open Go.ChangeMaps (open_string shut_string)
set_option linter.unusedVariables false


/-- WHAT THE WALK IS TOLD OF A SLICE OF INTEGERS THAT CAME IN: it is nil; or it leads to a row of 'cap' cells, the numbers 'zs' (the first 'len' are its elements, the rest its spare room), each fitting its kind. -/
def IsRow (k : IntKind) (w : World) (a : Option Addr) (len cap : Nat) (zs : List Int) : Prop :=
  (a = none ∧ len = 0 ∧ cap = 0 ∧ zs = []) ∨
  ∃ x, a = some x ∧ len ≤ cap ∧ cap ≤ maxLen ∧ zs.length = cap ∧ (∀ i, i < zs.length → w.cell? (x.add i) = some (.int k (zs.getD i 0))) ∧ ∀ n ∈ zs, (Lit.int k n).wf = true

/-! ### STEP 1: THE WALK: the Go text returns true, AND WRITES NOTHING THAT WAS THERE: 'Below w.heap.size w w'' (Derived/Below.lean: '.refl', '.alloc', '.drew', '.setCell' at a new block, '.trans'). Open each 'IsRow' by 'rcases' AHEAD of 'go_enter'; part every test ahead of the walk. -/
set_option maxHeartbeats 1000000 in
theorem walk (a0 : Option Addr) (len0 cap0 : Nat) (z0 : List Int) (w : World) (w0 : IsRow .u8 w a0 len0 cap0 z0) :
    Calls Try.prog 4 #[.slice a0 len0 cap0] w fun e w' => e = .returned (.bool true) ∧ Below w.heap.size w w' := by
  have hr := rdB_of_row w0
  clear w0
  generalize List.take len0 z0 = cs at hr
  have HR := Lib.hid hr; clear hr
  by_cases hbig : len0 ≤ 4096
  rotate_left
  · go_enter Try.func4, Try.ntmps4
    go_wp2_with fail
    refine (big_yes _ _ _ _ hbig).mono ?_
    rintro e w' ⟨rfl, rfl⟩
    go_wp2
    go_ret
    exact ⟨rfl, Below.refl _ _⟩
  go_enter Try.func4, Try.ntmps4
  go_wp2_with fail
  refine (big_no _ _ _ _ hbig).mono ?_
  rintro e w' ⟨rfl, rfl⟩
  go_wp2_with fail
  refine (drawAgreedMembers_any _ _ _ cs _ HR.out (by omega)).mono ?_
  rintro e w1 ⟨v1, xs, rfl, o1, hxl, b1⟩
  obtain ⟨p1, c1, rfl, o1, -⟩ := o1.get
  have H : Held 2 w w1 _ := Held.start.make o1 b1
  replace HR := Lib.hid (rdB_grow HR.out b1); clear o1 b1
  obtain ⟨v, bad, hF⟩ : ∃ v bad, agreedMembers xs = (v, bad) := ⟨_, _, rfl⟩
  have HF := Lib.hid hF; clear hF
  have n0 : (bad != bad) = false := by simp
  have n1 : (v != v) = false := by simp
  go_wp2_with fail
  refine (agreedMembers_any _ _ _ _ _ (H.rd 0 rfl rfl) (by omega)).mono ?_
  rintro e w2 ⟨rfl, b⟩
  rw [HF.out]
  replace H := H.still b
  replace HR := Lib.hid (rdB_grow HR.out b); clear b
  go_wp2_with fail
  refine (sAgreedMembers_any _ _ _ _ _ (H.rd 0 rfl rfl) (by omega)).mono ?_
  rintro e w3 ⟨rfl, b⟩
  rw [HF.out]
  replace H := H.still b
  replace HR := Lib.hid (rdB_grow HR.out b); clear b
  have HH := Lib.hid H; clear H
  by_cases hz : bad = 0
  rotate_left
  · have t1 : (bad != 0) = true := by simp [hz]
    clear hz
    go_wp2
    go_ret
    exact ⟨rfl, HH.out.below⟩
  subst hz
  obtain ⟨h1, h32, hall⟩ := agreed_round HF.out
  have HALL := Lib.hid hall; clear hall
  go_wp2_with fail
  refine (roll_any _ _ _ cs _ _ HR.out (by omega)).mono ?_
  rintro e w4 ⟨d, rfl, hd0, hd1, b4⟩
  go_wp2_with fail
  refine (below_any _ _ _ hd1 (by omega) (by omega)).mono ?_
  rintro e w5 ⟨k, rfl, hk0, hk1, -, g5⟩
  replace HH := Lib.hid (HH.out.still (below_thrown b4 g5 hd0))
  clear b4 g5 hd0 hd1 HR
  obtain ⟨k, rfl⟩ := Int.eq_ofNat_of_zero_le hk0
  have hkn : k < xs.length := by omega
  obtain ⟨hc, hm, hmaj⟩ := HALL.out k hkn
  have hsl := placesTo_len xs (xs.getD k 0) xs.length
  obtain ⟨same, hsame⟩ : ∃ same, placesTo xs (xs.getD k 0) xs.length = same := ⟨_, rfl⟩
  rw [hsame] at hc hm hmaj hsl
  have HC := Lib.hid hc; have HM := Lib.hid hm; have HMAJ := Lib.hid hmaj
  clear hc hm hmaj hsame
  go_wp2_with fail
  refine (cliqueOf_any _ _ _ _ _ _ (HH.out.rd 0 rfl rfl) (by omega)).mono ?_
  rintro e w6 m6
  rw [HC.out] at m6
  change Makes2 2 _ same 0 _ _ at m6
  obtain ⟨p6, c6, rfl, o6, -, b6⟩ := m6.get
  replace HH := Lib.hid (HH.out.make o6 b6); clear o6 b6 m6
  go_wp2_with fail
  refine (hasInt_any _ _ _ _ _ _ (HH.out.rd 0 rfl rfl) (by omega)).mono ?_
  rintro e w' ⟨rfl, rfl⟩
  rw [decide_eq_true HM.out]
  by_cases hle : 2 * same.length ≤ xs.length
  · have hle' : 2 * (same.length : Int) ≤ (xs.length : Int) := by omega
    clear hle
    go_wp2
    go_ret
    exact ⟨rfl, HH.out.below⟩
  · have hle' : ¬ 2 * (same.length : Int) ≤ (xs.length : Int) := by omega
    have hv := HMAJ.out (by omega)
    obtain ⟨b, off, hp, hall⟩ := (HH.out.rd 1 rfl rfl).here (by omega)
    subst hp
    have hck := hall k hkn
    rw [← hv] at hck
    clear hall hv hle HMAJ
    have n2 : (v == v) = true := by simp
    go_wp2
    go_ret
    exact ⟨rfl, HH.out.below⟩


end Go.Proofs.Ytkidhilipeoliaa.fnAgreed
