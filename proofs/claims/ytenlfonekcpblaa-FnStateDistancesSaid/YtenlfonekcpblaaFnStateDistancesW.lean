/-
  The walk of laws.FnStateDistances: at every input it returns true and writes nothing that was there.
-/
import Derived.Test.YtenlfonekcpblaaRows
import Derived.Test.YtenlfonekcpblaaC4k
import Derived.Test.YtenlfonekcpblaaC4l
import Derived.WalkKit
import Derived.ProofKit
import Derived.OpenShut
import Derived.ShutString
import Derived.ChangeOld
import Derived.Below
namespace Go.Proofs.Ytenlfonekcpblaa.fnStateDistances
open Go.ChangeShapes Go.WideShapes Go.ChangeAt Go.RowKit
open Go.ChangeMaps (open_string shut_string)
set_option linter.unusedVariables false


/-- WHAT THE WALK IS TOLD OF A SLICE OF INTEGERS THAT CAME IN: it is nil; or it leads to a row of 'cap' cells, the numbers 'zs' (the first 'len' are its elements, the rest its spare room), each fitting its kind. -/
def IsRow (k : IntKind) (w : World) (a : Option Addr) (len cap : Nat) (zs : List Int) : Prop :=
  (a = none ∧ len = 0 ∧ cap = 0 ∧ zs = []) ∨
  ∃ x, a = some x ∧ len ≤ cap ∧ cap ≤ maxLen ∧ zs.length = cap ∧ (∀ i, i < zs.length → w.cell? (x.add i) = some (.int k (zs.getD i 0))) ∧ ∀ n ∈ zs, (Lit.int k n).wf = true

/-! ### STEP 1: THE WALK: the Go text returns true, AND WRITES NOTHING THAT WAS THERE: 'Below w.heap.size w w'' (Derived/Below.lean: '.refl', '.alloc', '.drew', '.setCell' at a new block, '.trans'). Open each 'IsRow' by 'rcases' AHEAD of 'go_enter'; part every test ahead of the walk. -/
set_option maxHeartbeats 1000000 in
theorem walk (a0 : Option Addr) (len0 cap0 : Nat) (z0 : List Int) (w : World) (w0 : IsRow .u8 w a0 len0 cap0 z0) :
    Calls Try.prog 4 #[.slice a0 len0 cap0] w fun e w' => e = .returned (.bool true) ∧ Below w.heap.size w w' := by
  have hr := rdB_of_row w0
  clear w0
  generalize List.take len0 z0 = cs at hr
  have HR := Lib.hid hr; clear hr
  by_cases hbig : len0 ≤ 4096
  · go_enter Try.func4, Try.ntmps4
    go_wp2_with fail
    refine (big_no _ _ _ _ hbig).mono ?_
    rintro e w' ⟨rfl, rfl⟩
    go_wp2_with fail
    refine (drawStateDistance_any _ _ _ cs _ HR.out (by omega)).mono ?_
    rintro e w1 ⟨t, m, r, s, k, t', m', r', s', k', rfl, b1⟩
    have B0 := Lib.hid b1; clear b1
    obtain ⟨d, e1, hF⟩ : ∃ d e1, distOf t m r s k t' m' r' s' k' = (d, e1) := ⟨_, _, rfl⟩
    obtain ⟨x, e2, hT⟩ : ∃ x e2, timeOf t m r s k t' m' r' s' k' = (x, e2) := ⟨_, _, rfl⟩
    have HF := Lib.hid hF; clear hF
    have HT := Lib.hid hT; clear hT
    go_wp2_with fail
    refine (stateDistance_any t m r s k t' m' r' s' k' _).mono ?_
    rintro e w2 ⟨rfl, b2⟩
    have H := Lib.hid b2
    clear b2
    rw [HF.out]
    simp only
    obtain ⟨c0, c1, c2, c3, c4, d0, d1, d2, d3, d4⟩ := cells_two H.out
    go_wp2_with fail
    clear c0 c1 c2 c3 c4 d0 d1 d2 d3 d4
    refine (sStateDistance_any t m r s k t' m' r' s' k' _).mono ?_
    rintro e w3 ⟨rfl, b3⟩
    replace H := Lib.hid (below_two H.out b3)
    clear b3
    rw [HF.out]
    simp only
    obtain ⟨c0, c1, c2, c3, c4, d0, d1, d2, d3, d4⟩ := cells_two H.out
    go_wp2_with fail
    clear c0 c1 c2 c3 c4 d0 d1 d2 d3 d4
    refine (timeBetween_any t m r s k t' m' r' s' k' _).mono ?_
    rintro e w4 ⟨rfl, b4⟩
    replace H := Lib.hid (below_two H.out b4)
    clear b4
    rw [HT.out]
    simp only
    obtain ⟨c0, c1, c2, c3, c4, d0, d1, d2, d3, d4⟩ := cells_two H.out
    go_wp2_with fail
    clear c0 c1 c2 c3 c4 d0 d1 d2 d3 d4
    refine (sTimeBetween_any t m r s k t' m' r' s' k' _).mono ?_
    rintro e w5 ⟨rfl, b5⟩
    replace H := Lib.hid (below_two H.out b5)
    clear b5
    rw [HT.out]
    simp only
    have n1 : (e1 != e1) = false := by simp
    have n2 : (d != d) = false := by simp
    have n3 : (e2 != e2) = false := by simp
    have n4 : (x != x) = false := by simp
    by_cases hc : e1 = 0
    · subst hc
      have hback := Lib.hid (dist_back HF.out)
      have hz := dist_zero HF.out
      obtain ⟨x', y, hx, hy, hx0, hx1, hxy⟩ := time_back HF.out
      obtain ⟨rfl, rfl⟩ : x' = x ∧ 0 = e2 := by have h := HT.out; rw [hx] at h; exact ⟨congrArg Prod.fst h, congrArg Prod.snd h⟩
      have HY := Lib.hid hy; clear hx hy
      obtain ⟨q, hq⟩ : ∃ q, (d == 0) = q := ⟨_, rfl⟩
      rw [hq] at hz
      have he : ∀ w, (binOp .eql 25 (.agg #[.int .i64 t, .int .i64 m, .int .i64 r, .int .i64 s, .int .i64 k]) (.agg #[.int .i64 t', .int .i64 m', .int .i64 r', .int .i64 s', .int .i64 k'])).run Try.prog w = .ok (.bool q) w := fun w => by rw [hz]; exact state_eql t m r s k t' m' r' s' k' w
      clear hz
      have n0 : ((0 : Int) != 0) = false := by simp
      obtain ⟨c0, c1, c2, c3, c4, d0, d1, d2, d3, d4⟩ := cells_two H.out
      go_wp2_with fail
      clear c0 c1 c2 c3 c4 d0 d1 d2 d3 d4
      refine (stateDistance_any t' m' r' s' k' t m r s k _).mono ?_
      rintro e w6 ⟨rfl, b6⟩
      replace H := Lib.hid (below_two H.out b6)
      clear b6
      rw [hback.out]
      simp only
      obtain ⟨c0, c1, c2, c3, c4, d0, d1, d2, d3, d4⟩ := cells_two H.out
      go_wp2_with fail
      clear c0 c1 c2 c3 c4 d0 d1 d2 d3 d4
      refine (timeBetween_any t' m' r' s' k' t m r s k _).mono ?_
      rintro e w7 ⟨rfl, b7⟩
      replace H := Lib.hid (below_two H.out b7)
      clear b7
      rw [HY.out]
      simp only
      have m1 : (d == d) = true := by simp
      have m2 : (q == q) = true := by simp
      clear n1 n2 n3 n4 n0
      have H9 := H.out
      obtain ⟨c0, c1, c2, c3, c4, d0, d1, d2, d3, d4⟩ := cells_two H.out
      rcases hxy with ⟨rfl, rfl⟩ | ⟨hx2, rfl⟩
      · go_wp2_with fail
        go_ret
        exact ⟨rfl, B0.out.trans ((below_box2 H9).mono B0.out.size)⟩
      · have hx3 : (x' == -32768) = false := by simp [hx2]
        have hx4 : (-x' == -x') = true := by simp
        clear hx2
        go_wp2_with fail
        go_ret
        exact ⟨rfl, B0.out.trans ((below_box2 H9).mono B0.out.size)⟩
    · have hc2 : (e1 != 0) = true := by simp [hc]
      clear hc
      have H9 := H.out
      go_wp2_with fail
      go_ret
      exact ⟨rfl, B0.out.trans ((below_box2 H9).mono B0.out.size)⟩
  · go_enter Try.func4, Try.ntmps4
    go_wp2_with fail
    refine (big_yes _ _ _ _ hbig).mono ?_
    rintro e w' ⟨rfl, rfl⟩
    go_wp2
    go_ret
    exact ⟨rfl, Below.refl _ _⟩


end Go.Proofs.Ytenlfonekcpblaa.fnStateDistances
