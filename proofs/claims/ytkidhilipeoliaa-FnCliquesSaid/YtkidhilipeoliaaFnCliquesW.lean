/-
  The walk of laws.FnCliques: at every input it returns true and writes nothing that was there.
-/
import Derived.Test.YtkidhilipeoliaaRows
import Derived.Test.YtkidhilipeoliaaM5
import Derived.Test.YtkidhilipeoliaaM9
import Derived.Test.YtkidhilipeoliaaMB
import Derived.Test.YtkidhilipeoliaaVec3
import Derived.Test.YtkidhilipeoliaaDrawC
import Derived.Test.YtkidhilipeoliaaLawC
import Derived.Test.YtkidhilipeoliaaBase
import Derived.Test.YtkidhilipeoliaaDrawA
import Derived.WalkKit
import Derived.ProofKit
import Derived.OpenShut
import Derived.ShutString
import Derived.ChangeOld
import Derived.Below
namespace Go.Proofs.Ytkidhilipeoliaa.fnCliques
open Go.ChangeShapes Go.WideShapes Go.ChangeAt Go.RowKit
open Go.ChangeMaps (open_string shut_string)
set_option linter.unusedVariables false


/-- WHAT THE WALK IS TOLD OF A SLICE OF INTEGERS THAT CAME IN: it is nil; or it leads to a row of 'cap' cells, the numbers 'zs' (the first 'len' are its elements, the rest its spare room), each fitting its kind. -/
def IsRow (k : IntKind) (w : World) (a : Option Addr) (len cap : Nat) (zs : List Int) : Prop :=
  (a = none ∧ len = 0 ∧ cap = 0 ∧ zs = []) ∨
  ∃ x, a = some x ∧ len ≤ cap ∧ cap ≤ maxLen ∧ zs.length = cap ∧ (∀ i, i < zs.length → w.cell? (x.add i) = some (.int k (zs.getD i 0))) ∧ ∀ n ∈ zs, (Lit.int k n).wf = true

/-! ### STEP 1: THE WALK: the Go text returns true, AND WRITES NOTHING THAT WAS THERE: 'Below w.heap.size w w'' (Derived/Below.lean: '.refl', '.alloc', '.drew', '.setCell' at a new block, '.trans'). Open each 'IsRow' by 'rcases' AHEAD of 'go_enter'; part every test ahead of the walk. -/
set_option maxHeartbeats 1000000 in
theorem walk (a0 : Option Addr) (len0 cap0 : Nat) (z0 : List Int) (w : World) (w0 : IsRow .u8 w a0 len0 cap0 z0) :
    Calls Try.prog 5 #[.slice a0 len0 cap0] w fun e w' => e = .returned (.bool true) ∧ Below w.heap.size w w' := by
  have hr := rdB_of_row w0
  clear w0
  generalize List.take len0 z0 = cs at hr
  have HR := Lib.hid hr; clear hr
  by_cases hbig : len0 ≤ 4096
  rotate_left
  · go_enter Try.func5, Try.ntmps5
    go_wp2_with fail
    refine (big_yes _ _ _ _ hbig).mono ?_
    rintro e w' ⟨rfl, rfl⟩
    go_wp2
    go_ret
    exact ⟨rfl, Below.refl _ _⟩
  go_enter Try.func5, Try.ntmps5
  go_wp2_with fail
  refine (big_no _ _ _ _ hbig).mono ?_
  rintro e w' ⟨rfl, rfl⟩
  go_wp2_with fail
  refine (drawCliqueOf_any _ _ _ cs _ HR.out (by omega)).mono ?_
  rintro e w1 ⟨v1, xs, k, rfl, o1, hxl, b1⟩
  obtain ⟨p1, c1, rfl, o1, -⟩ := o1.get
  have H : Held 2 w w1 _ := Held.start.make o1 b1
  replace HR := Lib.hid (rdB_grow HR.out b1); clear o1 b1
  obtain ⟨out, bad, hF⟩ : ∃ out bad, cliqueOf xs k = (out, bad) := ⟨_, _, rfl⟩
  have hol : out.length ≤ 9000 := by have h := cliqueOf_len xs k; rw [hF] at h; exact Nat.le_trans h hxl
  have HF := Lib.hid hF; clear hF
  have n0 : (bad != bad) = false := by simp
  go_wp2_with fail
  refine (cliqueOf_any _ _ _ _ _ _ (H.rd 0 rfl rfl) (by omega)).mono ?_
  rintro e w2 m2
  rw [HF.out] at m2
  change Makes2 2 _ out bad _ _ at m2
  obtain ⟨p2, c2, rfl, o2, -, b2⟩ := m2.get
  replace H := H.make o2 b2
  replace HR := Lib.hid (rdB_grow HR.out b2); clear o2 b2 m2
  go_wp2_with fail
  refine (sCliqueOf_any _ _ _ _ _ _ (H.rd 1 rfl rfl) (by omega)).mono ?_
  rintro e w3 m3
  rw [HF.out] at m3
  change Makes2 2 _ out bad _ _ at m3
  obtain ⟨p3, c3, rfl, o3, -, b3⟩ := m3.get
  replace H := H.make o3 b3
  replace HR := Lib.hid (rdB_grow HR.out b3); clear o3 b3 m3
  go_wp2_with fail
  refine (drawIsMajority_any _ _ _ cs _ HR.out (by omega)).mono ?_
  rintro e w4 ⟨a, r, rfl, b4⟩
  replace H := H.still b4
  replace HR := Lib.hid (rdB_grow HR.out b4); clear b4
  go_wp2_with fail
  refine (like_yes _ _ _ _ _ _ _ _ (H.rd 1 rfl rfl) (H.rd 0 rfl rfl) (by omega)).mono ?_
  rintro e w5 ⟨rfl, b5⟩
  replace H := H.still b5
  replace HR := Lib.hid (rdB_grow HR.out b5); clear b5
  have HH := Lib.hid H; clear H
  have hmm := maj_not a r
  obtain ⟨q1, hq1⟩ : ∃ q, isMajority a r = q := ⟨_, rfl⟩
  obtain ⟨q2, hq2⟩ : ∃ q, isMajority r a = q := ⟨_, rfl⟩
  rw [hq1, hq2] at hmm
  have Q1 := Lib.hid hq1; have Q2 := Lib.hid hq2
  clear hq1 hq2
  cases q1
  · clear hmm
    go_wp2_with fail
    refine (isMajority_any _ _ _).mono ?_
    rintro e w' ⟨rfl, rfl⟩
    rw [Q1.out]
    go_wp2_with fail
    refine (sIsMajority_any _ _ _).mono ?_
    rintro e w' ⟨rfl, rfl⟩
    rw [Q1.out]
    go_wp2_with fail
    refine (isMajority_any _ _ _).mono ?_
    rintro e w' ⟨rfl, rfl⟩
    rw [Q1.out]
    by_cases hz : bad = 0
    rotate_left
    · have t1 : (bad != 0) = true := by simp [hz]
      clear hz
      go_wp2
      go_ret
      exact ⟨rfl, HH.out.below⟩
    subst hz
    obtain ⟨h1, h32, hall⟩ := clique_round HF.out
    have HALL := Lib.hid hall; clear hall
    go_wp2_with fail
    refine (roll_any _ _ _ cs _ _ HR.out (by omega)).mono ?_
    rintro e w6 ⟨d, rfl, hd0, hd1, b6⟩
    go_wp2_with fail
    refine (below_any _ _ _ hd1 (by omega) (by omega)).mono ?_
    rintro e w7 ⟨j, rfl, hj0, hj1, -, g7⟩
    replace HH := Lib.hid (HH.out.still (below_thrown b6 g7 hd0))
    clear b6 g7 hd0 hd1 HR
    obtain ⟨j, rfl⟩ := Int.eq_ofNat_of_zero_le hj0
    have hjn : j < xs.length := by omega
    obtain ⟨more, hc, hml, hdec⟩ := HALL.out j hjn
    have HC := Lib.hid hc; clear hc
    obtain ⟨g, hg⟩ : ∃ g, decide (more = out) = g := ⟨_, rfl⟩
    rw [hg] at hdec
    have HG := Lib.hid hg; have HD := Lib.hid hdec.symm
    clear hg hdec
    have n1 : (g == g) = true := by simp
    go_wp2_with fail
    refine (cliqueOf_any _ _ _ _ _ _ (HH.out.rd 2 rfl rfl) (by omega)).mono ?_
    rintro e w8 m8
    rw [HC.out] at m8
    change Makes2 2 _ more 0 _ _ at m8
    obtain ⟨p8, c8, rfl, o8, -, b8⟩ := m8.get
    replace HH := Lib.hid (HH.out.make o8 b8); clear o8 b8 m8
    go_wp2_with fail
    refine (like_any _ _ _ _ _ _ _ _ _ (HH.out.rd 0 rfl rfl) (HH.out.rd 2 rfl rfl) (by omega) (by omega)).mono ?_
    rintro e w9 ⟨rfl, q, rfl⟩
    rw [HG.out]
    have HH9 := Lib.hid (HH.out.still (below_drewN' (Below.refl _ _) q))
    go_wp2_with fail
    refine (hasInt_any _ _ _ _ _ _ (HH9.out.rd 2 rfl rfl) (by omega)).mono ?_
    rintro e w' ⟨rfl, rfl⟩
    rw [HD.out]
    go_wp2
    go_ret
    exact ⟨rfl, HH9.out.below⟩
  · obtain rfl : q2 = false := by simpa using hmm
    clear hmm
    go_wp2_with fail
    refine (isMajority_any _ _ _).mono ?_
    rintro e w' ⟨rfl, rfl⟩
    rw [Q1.out]
    go_wp2_with fail
    refine (sIsMajority_any _ _ _).mono ?_
    rintro e w' ⟨rfl, rfl⟩
    rw [Q1.out]
    go_wp2_with fail
    refine (isMajority_any _ _ _).mono ?_
    rintro e w' ⟨rfl, rfl⟩
    rw [Q1.out]
    go_wp2_with fail
    refine (isMajority_any _ _ _).mono ?_
    rintro e w' ⟨rfl, rfl⟩
    rw [Q2.out]
    by_cases hz : bad = 0
    rotate_left
    · have t1 : (bad != 0) = true := by simp [hz]
      clear hz
      go_wp2
      go_ret
      exact ⟨rfl, HH.out.below⟩
    subst hz
    obtain ⟨h1, h32, hall⟩ := clique_round HF.out
    have HALL := Lib.hid hall; clear hall
    go_wp2_with fail
    refine (roll_any _ _ _ cs _ _ HR.out (by omega)).mono ?_
    rintro e w6 ⟨d, rfl, hd0, hd1, b6⟩
    go_wp2_with fail
    refine (below_any _ _ _ hd1 (by omega) (by omega)).mono ?_
    rintro e w7 ⟨j, rfl, hj0, hj1, -, g7⟩
    replace HH := Lib.hid (HH.out.still (below_thrown b6 g7 hd0))
    clear b6 g7 hd0 hd1 HR
    obtain ⟨j, rfl⟩ := Int.eq_ofNat_of_zero_le hj0
    have hjn : j < xs.length := by omega
    obtain ⟨more, hc, hml, hdec⟩ := HALL.out j hjn
    have HC := Lib.hid hc; clear hc
    obtain ⟨g, hg⟩ : ∃ g, decide (more = out) = g := ⟨_, rfl⟩
    rw [hg] at hdec
    have HG := Lib.hid hg; have HD := Lib.hid hdec.symm
    clear hg hdec
    have n1 : (g == g) = true := by simp
    go_wp2_with fail
    refine (cliqueOf_any _ _ _ _ _ _ (HH.out.rd 2 rfl rfl) (by omega)).mono ?_
    rintro e w8 m8
    rw [HC.out] at m8
    change Makes2 2 _ more 0 _ _ at m8
    obtain ⟨p8, c8, rfl, o8, -, b8⟩ := m8.get
    replace HH := Lib.hid (HH.out.make o8 b8); clear o8 b8 m8
    go_wp2_with fail
    refine (like_any _ _ _ _ _ _ _ _ _ (HH.out.rd 0 rfl rfl) (HH.out.rd 2 rfl rfl) (by omega) (by omega)).mono ?_
    rintro e w9 ⟨rfl, q, rfl⟩
    rw [HG.out]
    have HH9 := Lib.hid (HH.out.still (below_drewN' (Below.refl _ _) q))
    go_wp2_with fail
    refine (hasInt_any _ _ _ _ _ _ (HH9.out.rd 2 rfl rfl) (by omega)).mono ?_
    rintro e w' ⟨rfl, rfl⟩
    rw [HD.out]
    go_wp2
    go_ret
    exact ⟨rfl, HH9.out.below⟩


end Go.Proofs.Ytkidhilipeoliaa.fnCliques
