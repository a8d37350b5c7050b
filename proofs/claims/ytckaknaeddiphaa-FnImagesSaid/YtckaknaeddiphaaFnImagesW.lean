/-
  The walk of laws.FnImages: at every input it returns true and writes nothing that was there.
-/
import Derived.Test.YtckaknaeddiphaaRows
import Derived.Test.YtckaknaeddiphaaKF
import Derived.Test.YtckaknaeddiphaaKG
import Derived.Test.YtckaknaeddiphaaDrawA
import Derived.Test.YtckaknaeddiphaaLawC
import Derived.Test.YtckaknaeddiphaaBase
import Derived.WalkKit
import Derived.ProofKit
import Derived.OpenShut
import Derived.ShutString
import Derived.ChangeOld
import Derived.Below
namespace Go.Proofs.Ytckaknaeddiphaa.fnImages
open Go.ChangeShapes Go.WideShapes Go.ChangeAt Go.RowKit
open Go.ChangeMaps (open_string shut_string)
set_option linter.unusedVariables false


/-- WHAT THE WALK IS TOLD OF A SLICE OF INTEGERS THAT CAME IN: it is nil; or it leads to a row of 'cap' cells, the numbers 'zs' (the first 'len' are its elements, the rest its spare room), each fitting its kind. -/
def IsRow (k : IntKind) (w : World) (a : Option Addr) (len cap : Nat) (zs : List Int) : Prop :=
  (a = none ∧ len = 0 ∧ cap = 0 ∧ zs = []) ∨
  ∃ x, a = some x ∧ len ≤ cap ∧ cap ≤ maxLen ∧ zs.length = cap ∧ (∀ i, i < zs.length → w.cell? (x.add i) = some (.int k (zs.getD i 0))) ∧ ∀ n ∈ zs, (Lit.int k n).wf = true

/-! ### STEP 1: THE WALK: the Go text returns true, AND WRITES NOTHING THAT WAS THERE: 'Below w.heap.size w w'' (Derived/Below.lean: '.refl', '.alloc', '.drew', '.setCell' at a new block, '.trans'). Open each 'IsRow' by 'rcases' AHEAD of 'go_enter'; part every test ahead of the walk. -/
theorem walk (a0 : Option Addr) (len0 cap0 : Nat) (z0 : List Int) (w : World) (w0 : IsRow .u8 w a0 len0 cap0 z0) :
    Calls Try.prog 3 #[.slice a0 len0 cap0] w fun e w' => e = .returned (.bool true) ∧ Below w.heap.size w w' := by
  have hr := rdB_of_row w0
  clear w0
  generalize List.take len0 z0 = cs at hr
  have HR := Lib.hid hr; clear hr
  by_cases hbig : len0 ≤ 4096
  rotate_left
  · go_enter Try.func3, Try.ntmps3
    go_wp2_with fail
    refine (big_yes _ _ _ _ hbig).mono ?_
    rintro e w' ⟨rfl, rfl⟩
    go_wp2
    go_ret
    exact ⟨rfl, Below.refl _ _⟩
  go_enter Try.func3, Try.ntmps3
  go_wp2_with fail
  refine (big_no _ _ _ _ hbig).mono ?_
  rintro e w' ⟨rfl, rfl⟩
  go_wp2_with fail
  refine (drawImageOf_any _ _ _ cs _ HR.out (by omega)).mono ?_
  rintro e w1 ⟨ao, n, cap, xs, rfl, r1, hc1, hc2, hxl, b1⟩
  obtain rfl : xs.length = n := r1.len
  have hn : xs.length ≤ 1048576 := by omega
  have H : Held 2 w1 w1 [] := Held.start
  obtain ⟨r0, c0, hF⟩ : ∃ r0 c0, imageOf xs = (r0, c0) := ⟨_, _, rfl⟩
  have HF := Lib.hid hF; clear hF
  have hrl : r0.length ≤ 1048576 := by have h := imageOf_len xs; rw [HF.out] at h; exact h
  go_wp2_with fail
  refine (imageOf_any _ _ _ _ (r1.below H.below) hn hc1 hc2).mono ?_
  rintro e w2 m2
  rw [HF.out] at m2
  change Makes2 2 _ r0 c0 _ _ at m2
  obtain ⟨p2, c2, rfl, o2, -, b2⟩ := m2.get
  replace H := H.make o2 b2
  clear o2 b2 m2
  go_wp2_with fail
  refine (sImageOf_any _ _ _ _ (r1.below H.below) hn hc1 hc2).mono ?_
  rintro e w3 m3
  rw [HF.out] at m3
  change Makes2 2 _ r0 c0 _ _ at m3
  obtain ⟨p3, c3, rfl, o3, -, b3⟩ := m3.get
  replace H := H.make o3 b3
  clear o3 b3 m3
  go_wp2_with fail
  refine (like_yes _ _ _ _ _ _ _ _ (H.rd 1 rfl rfl) (H.rd 0 rfl rfl) (by omega)).mono ?_
  rintro e w4 ⟨rfl, b4⟩
  replace H := H.still b4
  clear b4
  by_cases hcode : c0 = 0
  rotate_left
  · have t1 : (c0 != 0) = true := by simp [hcode]
    clear hcode
    go_wp2_with fail
    go_ret
    exact ⟨rfl, below_two b1 H.below⟩
  subst hcode
  obtain ⟨hby, hx8, hie⟩ := imageOf_yes HF.out
  have hback : dataOfImage r0 = (xs, 0) := by rw [hie]; exact image_round hby hx8
  have hibyte : isBytes r0 = true := (read_image hback).1
  have hsz : imageSize (xs.length : Int) = ((r0.length : Int), 0) := by
    unfold imageSize
    rw [if_pos (inRange_iff.2 ⟨by omega, by omega⟩), hie, image_len]
    simp
  have hdam : damagedBlocks r0 = ([], 0) := by
    unfold damagedBlocks
    rw [if_neg (by rw [hibyte]; simp), hie, image_good]
    rfl
  have HB := Lib.hid hback; have HS := Lib.hid hsz; have HD := Lib.hid hdam
  clear hby hx8 hie hback hibyte hsz hdam
  go_wp2_with fail
  refine (dataOfImage_any _ _ _ _ (H.rd 1 rfl rfl) hrl (Own.cap (H.get 1 rfl)).1 (Own.cap (H.get 1 rfl)).2).mono ?_
  rintro e w5 m5
  rw [HB.out] at m5
  change Makes2 2 _ xs 0 _ _ at m5
  obtain ⟨p5, c5, rfl, o5, -, b5⟩ := m5.get
  replace H := H.make o5 b5
  clear o5 b5 m5
  go_wp2_with fail
  refine (imageSize_any _ _).mono ?_
  rintro e w' ⟨rfl, rfl⟩
  rw [HS.out]
  go_wp2_with fail
  refine (damagedBlocks_any _ _ _ _ (H.rd 2 rfl rfl) hrl (Own.cap (H.get 2 rfl)).1 (Own.cap (H.get 2 rfl)).2).mono ?_
  rintro e w6 m6
  rw [HD.out] at m6
  change Makes2 2 _ [] 0 _ _ at m6
  obtain ⟨p6, c6, rfl, o6, -, b6⟩ := m6.get
  replace H := H.make o6 b6
  clear o6 b6 m6
  go_wp2_with fail
  refine (like_yes _ _ _ _ _ _ _ _ (H.rd 1 rfl rfl) (r1.below H.below) (by omega)).mono ?_
  rintro e w7 ⟨rfl, b7⟩
  replace H := H.still b7
  clear b7
  go_wp2_with fail
  go_ret
  exact ⟨rfl, below_two b1 H.below⟩


end Go.Proofs.Ytckaknaeddiphaa.fnImages
