/-
  The walk of laws.FnFound: at every input it returns true and writes nothing that was there.
-/
import Derived.Test.YtfmbefmiglpijaaRows
import Derived.Test.YtfmbefmiglpijaaC3q
import Derived.WalkKit
import Derived.ProofKit
import Derived.OpenShut
import Derived.ShutString
import Derived.ChangeOld
import Derived.Below
namespace Go.Proofs.Ytfmbefmiglpijaa.fnFound
open Go.ChangeShapes Go.WideShapes Go.ChangeAt Go.RowKit
open Go.ChangeMaps (open_string shut_string)
set_option linter.unusedVariables false


/-- WHAT THE WALK IS TOLD OF A SLICE OF INTEGERS THAT CAME IN: it is nil; or it leads to a row of 'cap' cells, the numbers 'zs' (the first 'len' are its elements, the rest its spare room), each fitting its kind. -/
def IsRow (k : IntKind) (w : World) (a : Option Addr) (len cap : Nat) (zs : List Int) : Prop :=
  (a = none ∧ len = 0 ∧ cap = 0 ∧ zs = []) ∨
  ∃ x, a = some x ∧ len ≤ cap ∧ cap ≤ maxLen ∧ zs.length = cap ∧ (∀ i, i < zs.length → w.cell? (x.add i) = some (.int k (zs.getD i 0))) ∧ ∀ n ∈ zs, (Lit.int k n).wf = true

/-! ### STEP 1: THE WALK: the Go text returns true, AND WRITES NOTHING THAT WAS THERE: 'Below w.heap.size w w'' (Derived/Below.lean: '.refl', '.alloc', '.drew', '.setCell' at a new block, '.trans'). Open each 'IsRow' by 'rcases' AHEAD of 'go_enter'; part every test ahead of the walk. -/
set_option maxHeartbeats 1000000 in
theorem walk (a0 : Option Addr) (len0 cap0 : Nat) (z0 : List Int) (w : World) (w0 : IsRow .u8 w a0 len0 cap0 z0) :
    Calls Try.prog 3 #[.slice a0 len0 cap0] w fun e w' => e = .returned (.bool true) ∧ Below w.heap.size w w' := by
  have hr := rdB_of_row w0
  clear w0
  generalize List.take len0 z0 = cs at hr
  have HR := Lib.hid hr; clear hr
  by_cases hbig : len0 ≤ 4096
  · go_enter Try.func3, Try.ntmps3
    go_wp2_with fail
    refine (big_no _ _ _ _ hbig).mono ?_
    rintro e w' ⟨rfl, rfl⟩
    go_wp2_with fail
    refine (drawIsFound_any _ _ _ cs _ HR.out (by omega)).mono ?_
    rintro e w1 ⟨wd, pl, v1, xs, rfl, o1, hxl, b1⟩
    obtain ⟨p1, c1, rfl, o1, -⟩ := o1.get
    have H : HeldC 2 25 w (w1.alloc (.cells #[.int .i64 wd, .int .i64 pl] 25)) w1.heap.size wd pl _ := HeldC.start o1 b1
    obtain ⟨C, hC⟩ : ∃ C, C = w1.heap.size := ⟨_, rfl⟩
    clear o1 b1
    obtain ⟨hsame, hx9⟩ := found_same (wd := wd) (pl := pl) hxl
    clear hxl
    obtain ⟨r0, r1, hF⟩ : ∃ r0 r1, isFound wd pl xs = (r0, r1) := ⟨_, _, rfl⟩
    rw [hF] at hsame
    have HF := Lib.hid hF; clear hF
    have HI := Lib.hid hsame; clear hsame
    have hx1 : xs.length ≤ 1048576 := by omega
    go_upto_region 4 with fail
    generalize w1.alloc (.cells #[.int .i64 wd, .int .i64 pl] 25) = w2 at H ⊢
    rw [← hC] at H ⊢
    clear hC
    have hc0 := H.st.c0
    have hc1 := H.st.c1
    go_wp2_with fail
    clear hc0 hc1
    refine (isFound_any _ _ _ _ _ xs _ (H.rd 0 rfl rfl) hx1).mono ?_
    rintro e w3 ⟨rfl, b3⟩
    rw [HI.out]
    replace H := H.still b3
    clear b3
    have hc0 := H.st.c0
    have hc1 := H.st.c1
    go_wp2_with fail
    clear hc0 hc1
    refine (sIsFound_any _ _ _ _ _ xs _ (H.rd 0 rfl rfl) hx1).mono ?_
    rintro e w4 ⟨rfl, b4⟩
    rw [HF.out]
    have H4 := Lib.hid (H.still b4)
    have H5 := Lib.hid ((H.still b4).still (Below.refl w4.heap.size w4).drew)
    clear b4 H
    obtain ⟨m, hm⟩ : ∃ m, isMissed wd pl xs = m := ⟨_, rfl⟩
    have hfm : r1 = 0 → r0 = true → m = false := fun h1 h2 => by
      rw [← hm]; exact found_round (by rw [HF.out, h1, h2])
    have HM := Lib.hid hm; clear hm
    have HFM := Lib.hid hfm; clear hfm
    have t1 : (r1 != r1) = false := by simp
    have t2 : (r0 != r0) = false := by simp
    have t3 : (m != m) = false := by simp
    go_wp2
    go_region_held3 (fun w' => w'.cell? ⟨C, 0, none⟩ = some (.int .i64 wd) ∧ w'.cell? ⟨C, 1, none⟩ = some (.int .i64 pl))
      (first | exact ⟨H5.out.st.c0, H5.out.st.c1⟩ | exact ⟨H6.out.st.c0, H6.out.st.c1⟩ | exact ⟨H7.out.st.c0, H7.out.st.c1⟩)
      (first
        | (go_at_call 18; (with_reducible refine (isMissed_any _ _ _ _ _ xs _ (H5.out.rd 0 rfl rfl) hx1).mono ?_); rintro e w6 ⟨rfl, b6⟩; rw [HM.out]; have H6 := Lib.hid (H5.out.still b6); clear b6)
        | (go_at_call 19; (with_reducible refine (sIsMissed_any _ _ _ _ _ xs _ (H6.out.rd 0 rfl rfl) hx1).mono ?_); rintro e w7 ⟨rfl, b7⟩; rw [HM.out]; have H7 := Lib.hid (H6.out.still b7); clear b7))
    by_cases hr1 : r1 = 0
    · subst hr1
      cases r0
      · go_wp2
        go_ret
        exact ⟨rfl, H7.out.below⟩
      · have hmf : m = false := HFM.out rfl rfl
        subst hmf
        have hc0 := H7.out.st.c0
        have hc1 := H7.out.st.c1
        go_wp2_with fail
        clear hc0 hc1
        refine (isMissed_any _ _ _ _ _ xs _ (H7.out.rd 0 rfl rfl) hx1).mono ?_
        rintro e w8 ⟨rfl, b8⟩
        rw [HM.out]
        have H8 := Lib.hid (H7.out.still b8)
        clear b8
        go_wp2
        go_ret
        exact ⟨rfl, H8.out.below⟩
    · have t4 : (r1 != 0) = true := by simp [hr1]
      clear hr1
      go_wp2
      go_ret
      exact ⟨rfl, H7.out.below⟩
  · go_enter Try.func3, Try.ntmps3
    go_wp2_with fail
    refine (big_yes _ _ _ _ hbig).mono ?_
    rintro e w' ⟨rfl, rfl⟩
    go_wp2
    go_ret
    exact ⟨rfl, Below.refl _ _⟩


end Go.Proofs.Ytfmbefmiglpijaa.fnFound
