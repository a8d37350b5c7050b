/-
  The walk of laws.FnVectors: at every input it returns true and writes nothing that was there.
-/
import Derived.Test.YtkidhilipeoliaaRows
import Derived.Test.YtkidhilipeoliaaM3
import Derived.Test.YtkidhilipeoliaaM8
import Derived.Test.YtkidhilipeoliaaVec3
import Derived.Test.YtkidhilipeoliaaDrawC
import Derived.Test.YtkidhilipeoliaaDrawA
import Derived.Test.YtkidhilipeoliaaBase
import Derived.WalkKit
import Derived.ProofKit
import Derived.OpenShut
import Derived.ShutString
import Derived.ChangeOld
import Derived.Below
namespace Go.Proofs.Ytkidhilipeoliaa.fnVectors
open Go.ChangeShapes Go.WideShapes Go.ChangeAt Go.RowKit
open Go.ChangeMaps (open_string shut_string)
set_option linter.unusedVariables false


/-- WHAT THE WALK IS TOLD OF A SLICE OF INTEGERS THAT CAME IN: it is nil; or it leads to a row of 'cap' cells, the numbers 'zs' (the first 'len' are its elements, the rest its spare room), each fitting its kind. -/
def IsRow (k : IntKind) (w : World) (a : Option Addr) (len cap : Nat) (zs : List Int) : Prop :=
  (a = none ∧ len = 0 ∧ cap = 0 ∧ zs = []) ∨
  ∃ x, a = some x ∧ len ≤ cap ∧ cap ≤ maxLen ∧ zs.length = cap ∧ (∀ i, i < zs.length → w.cell? (x.add i) = some (.int k (zs.getD i 0))) ∧ ∀ n ∈ zs, (Lit.int k n).wf = true

/-! ### STEP 1: THE WALK: the Go text returns true, AND WRITES NOTHING THAT WAS THERE: 'Below w.heap.size w w'' (Derived/Below.lean: '.refl', '.alloc', '.drew', '.setCell' at a new block, '.trans'). Open each 'IsRow' by 'rcases' AHEAD of 'go_enter'; part every test ahead of the walk. -/
set_option maxHeartbeats 1000000 in
theorem walk (a0 : Option Addr) (len0 cap0 : Nat) (z0 : List Int) (w : World) (w0 : IsRow .u8 w a0 len0 cap0 z0) :
    Calls Try.prog 3 #[.slice a0 len0 cap0] w fun e w' => e = .returned (.bool true) ∧ Below w.heap.size w w' := by
  have hr := rdB_of_row w0
  clear w0
  generalize List.take len0 z0 = cs at hr
  have HR := Lib.hid hr; clear hr
  by_cases hbig : len0 ≤ 4096
  rotate_left
  · go_enter Try.func3, Try.ntmps3
    go_wp2_with fail
    refine (big_yes _ _ _ _ hbig).mono ?_
    rintro e w' ⟨rfl, rfl⟩
    go_wp2
    go_ret
    exact ⟨rfl, Below.refl _ _⟩
  go_enter Try.func3, Try.ntmps3
  go_wp2_with fail
  refine (big_no _ _ _ _ hbig).mono ?_
  rintro e w' ⟨rfl, rfl⟩
  go_wp2_with fail
  refine (drawMembersOf_any _ _ _ cs _ HR.out (by omega)).mono ?_
  rintro e w1 ⟨mm, rfl, b1⟩
  have H : Held 2 w w1 [] := Held.start.still b1
  replace HR := Lib.hid (rdB_grow HR.out b1); clear b1
  obtain ⟨xs, bad, hF⟩ : ∃ xs bad, membersOf mm = (xs, bad) := ⟨_, _, rfl⟩
  have hxl : xs.length ≤ 32 := by have h := membersOf_len mm; rw [hF] at h; exact h
  have HF := Lib.hid hF; clear hF
  go_wp2_with fail
  refine (membersOf_any _ _).mono ?_
  rintro e w2 m2
  rw [HF.out] at m2
  change Makes2 2 _ xs bad _ _ at m2
  obtain ⟨p2, c2, rfl, o2, -, b2⟩ := m2.get
  replace H := H.make o2 b2
  replace HR := Lib.hid (rdB_grow HR.out b2); clear o2 b2 m2
  go_wp2_with fail
  refine (sMembersOf_any _ _).mono ?_
  rintro e w3 m3
  rw [HF.out] at m3
  change Makes2 2 _ xs bad _ _ at m3
  obtain ⟨p3, c3, rfl, o3, -, b3⟩ := m3.get
  replace H := H.make o3 b3
  replace HR := Lib.hid (rdB_grow HR.out b3); clear o3 b3 m3
  go_wp2_with fail
  refine (drawSetMember_any _ _ _ cs _ HR.out (by omega)).mono ?_
  rintro e w4 ⟨m, k, mem, rfl, b4⟩
  replace H := H.still b4
  replace HR := Lib.hid (rdB_grow HR.out b4); clear b4
  obtain ⟨x, one, hG⟩ : ∃ x one, setMember m k mem = (x, one) := ⟨_, _, rfl⟩
  have HG := Lib.hid hG; clear hG
  have n0 : (bad != bad) = false := by simp
  have n1 : (one != one) = false := by simp
  have n2 : (x != x) = false := by simp
  have n3 : (m != m) = false := by simp
  have n4 : (mem != mem) = false := by simp
  have n5 : (mm == mm) = true := by simp
  go_wp2_with fail
  refine (setMember_any _ _ _ _).mono ?_
  rintro e w5 ⟨rfl, b5⟩
  rw [HG.out]
  replace H := H.still b5
  replace HR := Lib.hid (rdB_grow HR.out b5); clear b5
  go_wp2_with fail
  refine (sSetMember_any _ _ _ _).mono ?_
  rintro e w6 ⟨rfl, b6⟩
  rw [HG.out]
  replace H := H.still b6
  replace HR := Lib.hid (rdB_grow HR.out b6); clear b6
  go_wp2_with fail
  refine (like_yes _ _ _ _ _ _ _ _ (H.rd 1 rfl rfl) (H.rd 0 rfl rfl) (by omega)).mono ?_
  rintro e w7 ⟨rfl, b7⟩
  replace H := H.still b7
  replace HR := Lib.hid (rdB_grow HR.out b7); clear b7
  have HH := Lib.hid H; clear H
  by_cases hone : one = 0
  · subst hone
    obtain ⟨h1, h2⟩ := set_round HG.out
    obtain ⟨q, hq⟩ : ∃ q, hasMember m k = q := ⟨_, rfl⟩
    rw [hq] at h1
    have HQ := Lib.hid hq; have H1 := Lib.hid h1; have H2 := Lib.hid h2
    clear hq h1 h2
    go_wp2_with fail
    refine (hasMember_any _ _ _).mono ?_
    rintro e w8 ⟨rfl, b8⟩
    rw [HQ.out]
    replace HH := Lib.hid (HH.out.still b8)
    replace HR := Lib.hid (rdB_grow HR.out b8); clear b8
    go_wp2_with fail
    refine (setMember_any _ _ _ _).mono ?_
    rintro e w9 ⟨rfl, b9⟩
    rw [H1.out]
    replace HH := Lib.hid (HH.out.still b9)
    replace HR := Lib.hid (rdB_grow HR.out b9); clear b9
    go_wp2_with fail
    refine (hasMember_any _ _ _).mono ?_
    rintro e w10 ⟨rfl, b10⟩
    rw [H2.out]
    replace HH := Lib.hid (HH.out.still b10)
    replace HR := Lib.hid (rdB_grow HR.out b10); clear b10
    by_cases hbad : bad = 0
    · subst hbad
      have hv := members_round HF.out
      have HV := Lib.hid hv; clear hv
      go_wp2_with fail
      refine (vectorOf_any _ _ _ _ _ (HH.out.rd 1 rfl rfl) (by omega)).mono ?_
      rintro e w' ⟨rfl, rfl⟩
      rw [HV.out]
      go_wp2_with fail
      refine (drawVectorOf_any _ _ _ cs _ HR.out (by omega)).mono ?_
      rintro e w11 ⟨v, ys, rfl, o11, hyl, b11⟩
      obtain ⟨p11, c11, rfl, o11, -⟩ := o11.get
      replace HH := Lib.hid (HH.out.make o11 b11)
      clear o11 b11
      obtain ⟨y, five, hY⟩ : ∃ y five, vectorOf ys = (y, five) := ⟨_, _, rfl⟩
      have HY := Lib.hid hY; clear hY
      have n6 : (five == five) = true := by simp
      have n7 : (y == y) = true := by simp
      go_wp2_with fail
      refine (vectorOf_any _ _ _ _ _ (HH.out.rd 0 rfl rfl) (by omega)).mono ?_
      rintro e w' ⟨rfl, rfl⟩
      rw [HY.out]
      go_wp2_with fail
      refine (sVectorOf_any _ _ _ _ _ (HH.out.rd 0 rfl rfl) (by omega)).mono ?_
      rintro e w' ⟨rfl, rfl⟩
      rw [HY.out]
      go_wp2
      go_ret
      exact ⟨rfl, HH.out.below⟩
    · have t1 : (bad != 0) = true := by simp [hbad]
      clear hbad
      go_wp2
      go_ret
      exact ⟨rfl, HH.out.below⟩
  · have t2 : (one == 0) = false := by simp [hone]
    clear hone
    by_cases hbad : bad = 0
    · subst hbad
      have hv := members_round HF.out
      have HV := Lib.hid hv; clear hv
      go_wp2_with fail
      refine (vectorOf_any _ _ _ _ _ (HH.out.rd 1 rfl rfl) (by omega)).mono ?_
      rintro e w' ⟨rfl, rfl⟩
      rw [HV.out]
      go_wp2_with fail
      refine (drawVectorOf_any _ _ _ cs _ HR.out (by omega)).mono ?_
      rintro e w11 ⟨v, ys, rfl, o11, hyl, b11⟩
      obtain ⟨p11, c11, rfl, o11, -⟩ := o11.get
      replace HH := Lib.hid (HH.out.make o11 b11)
      clear o11 b11
      obtain ⟨y, five, hY⟩ : ∃ y five, vectorOf ys = (y, five) := ⟨_, _, rfl⟩
      have HY := Lib.hid hY; clear hY
      have n6 : (five == five) = true := by simp
      have n7 : (y == y) = true := by simp
      go_wp2_with fail
      refine (vectorOf_any _ _ _ _ _ (HH.out.rd 0 rfl rfl) (by omega)).mono ?_
      rintro e w' ⟨rfl, rfl⟩
      rw [HY.out]
      go_wp2_with fail
      refine (sVectorOf_any _ _ _ _ _ (HH.out.rd 0 rfl rfl) (by omega)).mono ?_
      rintro e w' ⟨rfl, rfl⟩
      rw [HY.out]
      go_wp2
      go_ret
      exact ⟨rfl, HH.out.below⟩
    · have t1 : (bad != 0) = true := by simp [hbad]
      clear hbad
      go_wp2
      go_ret
      exact ⟨rfl, HH.out.below⟩


end Go.Proofs.Ytkidhilipeoliaa.fnVectors
