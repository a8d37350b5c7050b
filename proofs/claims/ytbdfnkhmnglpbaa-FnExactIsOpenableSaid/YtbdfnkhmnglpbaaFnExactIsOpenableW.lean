/-
  The walk of laws.FnExactIsOpenable: at every input it returns true and writes nothing that was there.
-/
import Derived.Test.YtbdfnkhmnglpbaaRows
import Derived.Test.YtbdfnkhmnglpbaaH7
import Derived.Test.YtbdfnkhmnglpbaaBase
import Derived.Test.YtbdfnkhmnglpbaaFourA
import Derived.WalkKit
import Derived.ProofKit
import Derived.OpenShut
import Derived.ShutString
import Derived.ChangeOld
import Derived.Below
import Derived.Lib.SmallJoins
namespace Go.Proofs.Ytbdfnkhmnglpbaa.fnExactIsOpenable
open Go.ChangeShapes Go.WideShapes Go.ChangeAt Go.RowKit Go.Joins
open Go.ChangeMaps (open_string shut_string)
set_option linter.unusedVariables false
/-- A slice of integers that came in: nil, or a row of 'cap' cells that hold the numbers 'zs', each fitting its kind. -/
def IsRow (k : IntKind) (w : World) (a : Option Addr) (len cap : Nat) (zs : List Int) : Prop :=
  (a = none ∧ len = 0 ∧ cap = 0 ∧ zs = []) ∨
  ∃ x, a = some x ∧ len ≤ cap ∧ cap ≤ maxLen ∧ zs.length = cap ∧ (∀ i, i < zs.length → w.cell? (x.add i) = some (.int k (zs.getD i 0))) ∧ ∀ n ∈ zs, (Lit.int k n).wf = true

set_option linter.unusedSimpArgs false in set_option maxHeartbeats 2000000 in set_option maxRecDepth 100000 in
theorem walk (a0 : Option Addr) (len0 cap0 : Nat) (z0 : List Int) (a1 : Int) (s2_0 : Int) (s2_1 : Int) (s2_2 : Int) (s2_3 : Int) (s2_4 : Int) (w : World) (w0 : IsRow .i64 w a0 len0 cap0 z0) (w1 : (Lit.int .i64 a1).wf = true) (w2_0 : (Lit.int .i64 s2_0).wf = true) (w2_1 : (Lit.int .i64 s2_1).wf = true) (w2_2 : (Lit.int .i64 s2_2).wf = true) (w2_3 : (Lit.int .i64 s2_3).wf = true) (w2_4 : (Lit.int .i64 s2_4).wf = true) :
    Calls Try.prog 10 #[.slice a0 len0 cap0, .int .i64 a1, .agg #[.int .i64 s2_0, .int .i64 s2_1, .int .i64 s2_2, .int .i64 s2_3, .int .i64 s2_4]] w fun e w' => e = .returned (.bool true) ∧ Below w.heap.size w w' := by
  have hr := rd_of_row w0
  clear w0
  generalize List.take len0 z0 = xs at hr
  obtain rfl : xs.length = len0 := hr.len
  clear w2_0 w2_1 w2_2 w2_3 w2_4
  have hB0 : StateAt 64 (w.alloc (.cells #[.int .i64 s2_0, .int .i64 s2_1, .int .i64 s2_2, .int .i64 s2_3, .int .i64 s2_4] 64)) w.heap.size s2_0 s2_1 s2_2 s2_3 s2_4 := StateAt.new w
  have hW0 : Below w.heap.size w (w.alloc (.cells #[.int .i64 s2_0, .int .i64 s2_1, .int .i64 s2_2, .int .i64 s2_3, .int .i64 s2_4] 64)) := (Below.refl _ _).alloc (Nat.le_refl _) _
  have B0 := Lib.hid hB0; have HW0 := Lib.hid hW0; clear hB0 hW0
  by_cases hbig : xs.length ≤ 1048576
  rotate_left
  · go_enter Try.func10, Try.ntmps10
    go_wp2
    go_ret
    exact ⟨rfl, HW0.out⟩
  obtain ⟨r0, hF⟩ : ∃ r0, isOpenable xs a1 s2_0 s2_1 s2_2 s2_3 s2_4 = r0 := ⟨_, rfl⟩
  have HF := Lib.hid hF; clear hF
  replace hr := hr.below HW0.out
  have H : Held 2 (w.alloc (.cells #[.int .i64 s2_0, .int .i64 s2_1, .int .i64 s2_2, .int .i64 s2_3, .int .i64 s2_4] 64)) (w.alloc (.cells #[.int .i64 s2_0, .int .i64 s2_1, .int .i64 s2_2, .int .i64 s2_3, .int .i64 s2_4] 64)) [] := Held.start
  go_enter Try.func10, Try.ntmps10
  go_upto_region 1 with fail
  generalize w.alloc (.cells #[.int .i64 s2_0, .int .i64 s2_1, .int .i64 s2_2, .int .i64 s2_3, .int .i64 s2_4] 64) = wb at B0 HW0 hr H ⊢
  go_upto_region 3 with fail
  replace H := H.still (Below.drew (Below.refl _ _))
  refine wp_region_held_drew (S := fun w' => (w'.cell? ⟨w.heap.size, 0, none⟩ = some (.int .i64 s2_0) ∧ w'.cell? ⟨w.heap.size, 1, none⟩ = some (.int .i64 s2_1) ∧ w'.cell? ⟨w.heap.size, 2, none⟩ = some (.int .i64 s2_2) ∧ w'.cell? ⟨w.heap.size, 3, none⟩ = some (.int .i64 s2_3) ∧ w'.cell? ⟨w.heap.size, 4, none⟩ = some (.int .i64 s2_4))) (by kernel_rfl) (state_cells (B0.out.below H.below B0.out.lt)) (fun hHeld => ?_)
  refine wpAnyH_take (i := 0) (v := ?_) rfl (by kernel_rfl) (by kernel_rfl) (by kernel_rfl) (fun _ _ _ h => h) (Or.inl ⟨by rfl, ?_⟩) (by assumption) ?_
  rotate_left
  · (intro w hSw; (try dsimp only at hSw); go_simp; (try with_reducible rfl))
  try simp only [List.getElem_toArray, List.getElem_cons_succ, List.getElem_cons_zero, Act.put, List.setIfInBounds_toArray, List.set_cons_zero, List.set_cons_succ]
  refine wpAnyH_take (i := 2) (v := ?_) rfl (by kernel_rfl) (by kernel_rfl) (by kernel_rfl) (fun _ _ _ h => h) (Or.inl ⟨by rfl, ?_⟩) (by assumption) ?_
  rotate_left
  · (intro w hSw; (try dsimp only at hSw); go_simp; (try with_reducible rfl))
  try simp only [List.getElem_toArray, List.getElem_cons_succ, List.getElem_cons_zero, Act.put, List.setIfInBounds_toArray, List.set_cons_zero, List.set_cons_succ]
  refine wpAnyH_take (i := 3) (v := ?_) rfl (by kernel_rfl) (by kernel_rfl) (by kernel_rfl) (fun _ _ _ h => h) (Or.inl ⟨by rfl, ?_⟩) (by assumption) ?_
  rotate_left
  · (intro w hSw; (try dsimp only at hSw); go_simp; (try with_reducible rfl))
  try simp only [List.getElem_toArray, List.getElem_cons_succ, List.getElem_cons_zero, Act.put, List.setIfInBounds_toArray, List.set_cons_zero, List.set_cons_succ]
  refine wpAnyH_ready (rs := [1]) (by kernel_rfl) (by simp) (AllReadyH.cons rfl (fun K hK => ?_) AllReadyH.nil)
  go_simp
  refine (toInt_any _ _ _ _ _ (hr.below H.below) hbig).mono ?_
  rintro e w1 m1
  obtain ⟨p1, c1, rfl, o1, -, b1⟩ := m1.get
  clear m1
  replace H := H.make o1 b1
  clear o1 b1
  go_wp2_with fail
  refine hK.out _ _ ?_ (fun hHeld => ?_)
  · exact state_cells (B0.out.below H.below B0.out.lt)
  clear hK K
  try simp only [List.getElem_toArray, List.getElem_cons_succ, List.getElem_cons_zero, Act.put, List.setIfInBounds_toArray, List.set_cons_zero, List.set_cons_succ]
  refine wpAnyH_ready (rs := [4]) (by kernel_rfl) (by simp) (AllReadyH.cons rfl (fun K hK => ?_) AllReadyH.nil)
  go_simp
  refine (toState_any _ _ _ _ _ _).mono ?_
  rintro e w2 ⟨rfl, b2⟩
  replace H := H.still b2
  clear b2
  go_wp2_with fail
  refine hK.out _ _ ?_ (fun hHeld => ?_)
  · exact state_cells (B0.out.below H.below B0.out.lt)
  clear hK K
  try simp only [List.getElem_toArray, List.getElem_cons_succ, List.getElem_cons_zero, Act.put, List.setIfInBounds_toArray, List.set_cons_zero, List.set_cons_succ]
  refine wpAnyH_ready (rs := [5]) (by kernel_rfl) (by simp) (AllReadyH.cons rfl (fun K hK => ?_) AllReadyH.nil)
  go_simp
  refine (sIsOpenable_any _ _ _ _ _ _ _ _ _ _ (H.rd 0 rfl rfl) hbig (Own.cap (H.get 0 rfl)).1 (Own.cap (H.get 0 rfl)).2).mono ?_
  rintro e w3 ⟨rfl, b3⟩
  rw [HF.out]
  replace H := H.still b3
  clear b3
  go_wp2_with fail
  refine hK.out _ _ ?_ (fun hHeld => ?_)
  · exact state_cells (B0.out.below H.below B0.out.lt)
  clear hK K
  try simp only [List.getElem_toArray, List.getElem_cons_succ, List.getElem_cons_zero, Act.put, List.setIfInBounds_toArray, List.set_cons_zero, List.set_cons_succ]
  refine wpAnyH_take (i := 6) (v := ?_) rfl (by kernel_rfl) (by kernel_rfl) (by kernel_rfl) (fun _ _ _ h => h) (Or.inl ⟨by rfl, ?_⟩) (by assumption) ?_
  rotate_left
  · (intro w hSw; (try dsimp only at hSw); go_simp; (try with_reducible rfl))
  try simp only [List.getElem_toArray, List.getElem_cons_succ, List.getElem_cons_zero, Act.put, List.setIfInBounds_toArray, List.set_cons_zero, List.set_cons_succ]
  refine wpAnyH_done (by kernel_rfl) ?_ _
  go_wp2_with fail
  refine (toInt_any _ _ _ _ _ (hr.below H.below) hbig).mono ?_
  rintro e w4 m4
  obtain ⟨p4, c4, rfl, o4, -, b4⟩ := m4.get
  clear m4
  replace H := H.make o4 b4
  clear o4 b4
  obtain ⟨d0, d1, d2, d3, d4⟩ := state_cells (B0.out.below H.below B0.out.lt)
  go_wp2_with fail
  clear d0 d1 d2 d3 d4
  refine (toState_any _ _ _ _ _ _).mono ?_
  rintro e w5 ⟨rfl, b5⟩
  replace H := H.still b5
  clear b5
  go_wp2_with fail
  refine (isOpenable_any _ _ _ _ _ _ _ _ _ _ (H.rd 0 rfl rfl) hbig (Own.cap (H.get 0 rfl)).1 (Own.cap (H.get 0 rfl)).2).mono ?_
  rintro e w6 ⟨rfl, b6⟩
  rw [HF.out]
  replace H := H.still b6
  clear b6
  go_wp2_with fail
  refine (toInt_any _ _ _ _ _ (hr.below H.below) hbig).mono ?_
  rintro e w7 m7
  obtain ⟨p7, c7, rfl, o7, -, b7⟩ := m7.get
  clear m7
  replace H := H.make o7 b7
  clear o7 b7
  go_wp2_with fail
  refine (eq_yes _ _ _ _ _ _ _ _ (H.rd 1 rfl rfl) (H.rd 0 rfl rfl) (by omega)).mono ?_
  rintro e w8 ⟨rfl, b8⟩
  replace H := H.still b8
  clear b8
  go_wp2_with fail
  go_ret
  exact ⟨rfl, HW0.out.trans (H.below.mono HW0.out.size)⟩
end Go.Proofs.Ytbdfnkhmnglpbaa.fnExactIsOpenable
