/-
  The walk of laws.FnFlips: at every input it returns true and writes nothing that was there.
-/
import Derived.Test.YtbbankbamjnlcaaRows
import Derived.Test.YtbbankbamjnlcaaDraw2
import Derived.WalkKit
import Derived.ProofKit
import Derived.OpenShut
import Derived.ShutString
import Derived.ChangeOld
import Derived.Below
namespace Go.Proofs.Ytbbankbamjnlcaa.fnFlips
open Go.ChangeShapes Go.WideShapes Go.ChangeAt Go.RowKit
open Go.ChangeMaps (open_string shut_string)
set_option linter.unusedVariables false


/-- WHAT THE WALK IS TOLD OF A SLICE OF INTEGERS THAT CAME IN: it is nil; or it leads to a row of 'cap' cells, the numbers 'zs' (the first 'len' are its elements, the rest its spare room), each fitting its kind. -/
def IsRow (k : IntKind) (w : World) (a : Option Addr) (len cap : Nat) (zs : List Int) : Prop :=
  (a = none ∧ len = 0 ∧ cap = 0 ∧ zs = []) ∨
  ∃ x, a = some x ∧ len ≤ cap ∧ cap ≤ maxLen ∧ zs.length = cap ∧ (∀ i, i < zs.length → w.cell? (x.add i) = some (.int k (zs.getD i 0))) ∧ ∀ n ∈ zs, (Lit.int k n).wf = true

/-! ### STEP 1: THE WALK: the Go text returns true, AND WRITES NOTHING THAT WAS THERE: 'Below w.heap.size w w'' (Derived/Below.lean: '.refl', '.alloc', '.drew', '.setCell' at a new block, '.trans'). Open each 'IsRow' by 'rcases' AHEAD of 'go_enter'; part every test ahead of the walk. -/
theorem walk (a0 : Option Addr) (len0 cap0 : Nat) (z0 : List Int) (w : World) (w0 : IsRow .u8 w a0 len0 cap0 z0) :
    Calls Try.prog 6 #[.slice a0 len0 cap0] w fun e w' => e = .returned (.bool true) ∧ Below w.heap.size w w' := by
  have hr := rdB_of_row w0
  clear w0
  generalize List.take len0 z0 = cs at hr
  have HR := Lib.hid hr; clear hr
  by_cases hbig : len0 ≤ 4096
  · go_enter Try.func6, Try.ntmps6
    go_wp2_with fail
    refine (big_no _ _ _ _ hbig).mono ?_
    rintro e w' ⟨rfl, rfl⟩
    go_wp2_with fail
    refine (drawDifferingBits_any _ _ _ cs _ HR.out (by omega)).mono ?_
    rintro e w1 ⟨v1, xs, v1', ys, rfl, o1, o1', hxl, hyl, b1⟩
    obtain ⟨p1, c1, rfl, o1, ra⟩ := o1.get
    obtain ⟨p1', c1', rfl, o1', rb⟩ := o1'.get
    clear o1 o1'
    have H : Held 2 w1 w1 [] := Held.start
    obtain ⟨r0, r1, hF⟩ : ∃ r0 r1, differingBits xs ys = (r0, r1) := ⟨_, _, rfl⟩
    have HF := Lib.hid hF; clear hF
    have hrl : r0.length ≤ 8192 := by have h := differingBits_len xs ys; rw [HF.out] at h; exact h
    go_wp2_with fail
    refine (differingBits_any _ _ _ _ _ _ _ (ra.below H.below) (rb.below H.below) (by omega) (by omega)).mono ?_
    rintro e w2 m2
    rw [HF.out] at m2
    change Makes2 2 _ r0 r1 _ _ at m2
    obtain ⟨p2, c2, rfl, o2, -, b2⟩ := m2.get
    replace H := H.make o2 b2
    clear o2 b2 m2
    go_wp2_with fail
    refine (sDifferingBits_any _ _ _ _ _ _ _ (ra.below H.below) (rb.below H.below) (by omega) (by omega)).mono ?_
    rintro e w3 m3
    rw [HF.out] at m3
    change Makes2 2 _ r0 r1 _ _ at m3
    obtain ⟨p3, c3, rfl, o3, -, b3⟩ := m3.get
    replace H := H.make o3 b3
    clear o3 b3 m3
    go_wp2_with fail
    refine (drawFlipBits_any _ _ _ cs _ (rdB_later HR.out (below_two b1 H.below)) (by omega)).mono ?_
    rintro e w4 ⟨v4, us, v4', is, rfl, o4, o4', hul, hil, b4⟩
    obtain ⟨p4, c4, rfl, o4, ru⟩ := o4.get
    obtain ⟨p4', c4', rfl, o4', ri⟩ := o4'.get
    clear o4 o4'
    replace H := H.still b4
    have H4 : Held 2 w4 w4 [] := Held.start
    clear b4
    obtain ⟨q0, q1, hG⟩ : ∃ q0 q1, flipBits us is = (q0, q1) := ⟨_, _, rfl⟩
    have HG := Lib.hid hG; clear hG
    have hql : q0.length ≤ 8192 := by have h := flipBits_len us is; rw [HG.out] at h; exact h
    go_wp2_with fail
    refine (flipBits_any _ _ _ _ _ _ _ (ru.below H4.below) (ri.below H4.below) (by omega) (by omega)).mono ?_
    rintro e w5 m5
    rw [HG.out] at m5
    change Makes2 2 _ q0 q1 _ _ at m5
    obtain ⟨p5, c5, rfl, o5, -, b5⟩ := m5.get
    replace H := H.make o5 b5
    replace H4 := H4.make o5 b5
    clear o5 b5 m5
    go_wp2_with fail
    refine (sFlipBits_any _ _ _ _ _ _ _ (ru.below H4.below) (ri.below H4.below) (by omega) (by omega)).mono ?_
    rintro e w6 m6
    rw [HG.out] at m6
    change Makes2 2 _ q0 q1 _ _ at m6
    obtain ⟨p6, c6, rfl, o6, -, b6⟩ := m6.get
    replace H := H.make o6 b6
    replace H4 := H4.make o6 b6
    clear o6 b6 m6
    go_wp2_with fail
    refine (like_yes _ _ _ _ _ _ _ _ (H.rd 3 rfl rfl) (H.rd 2 rfl rfl) (by omega)).mono ?_
    rintro e w7 ⟨rfl, b7⟩
    replace H := H.still b7
    replace H4 := H4.still b7
    clear b7
    go_wp2_with fail
    refine (like_yes _ _ _ _ _ _ _ _ (H.rd 1 rfl rfl) (H.rd 0 rfl rfl) (by omega)).mono ?_
    rintro e w8 ⟨rfl, b8⟩
    replace H := H.still b8
    replace H4 := H4.still b8
    clear b8
    by_cases hr1 : r1 = 0
    · subst hr1
      have hfr := flips_round HF.out
      have HFR := Lib.hid hfr; clear hfr
      go_wp2_with fail
      refine (flipBits_any _ _ _ _ _ _ _ (ra.below H.below) (H.rd 3 rfl rfl) (by omega) (by omega)).mono ?_
      rintro e w9 m9
      rw [HFR.out] at m9
      change Makes2 2 _ ys 0 _ _ at m9
      obtain ⟨p9, c9, rfl, o9, -, b9⟩ := m9.get
      replace H := H.make o9 b9
      clear o9 b9 m9
      go_wp2_with fail
      refine (like_yes _ _ _ _ _ _ _ _ (H.rd 0 rfl rfl) (rb.below H.below) (by omega)).mono ?_
      rintro e w10 ⟨rfl, b10⟩
      replace H := H.still b10
      clear b10
      go_wp2_with fail
      go_ret
      exact ⟨rfl, below_two b1 H.below⟩
    · have t1 : (r1 != 0) = true := by simp [hr1]
      clear hr1
      go_wp2_with fail
      go_ret
      exact ⟨rfl, below_two b1 H.below⟩
  · go_enter Try.func6, Try.ntmps6
    go_wp2_with fail
    refine (big_yes _ _ _ _ hbig).mono ?_
    rintro e w' ⟨rfl, rfl⟩
    go_wp2
    go_ret
    exact ⟨rfl, Below.refl _ _⟩


end Go.Proofs.Ytbbankbamjnlcaa.fnFlips
