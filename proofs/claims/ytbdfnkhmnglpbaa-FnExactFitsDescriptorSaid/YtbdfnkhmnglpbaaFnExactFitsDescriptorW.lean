/-
  The walk of laws.FnExactFitsDescriptor: at every input it returns true and writes nothing that was there.
-/
import Derived.Test.YtbdfnkhmnglpbaaRows
import Derived.Test.YtbdfnkhmnglpbaaEigC
import Derived.Test.YtbdfnkhmnglpbaaSixC
import Derived.Test.YtbdfnkhmnglpbaaEigE
import Derived.Test.YtbdfnkhmnglpbaaBase
import Derived.Test.YtbdfnkhmnglpbaaFourA
import Derived.WalkKit
import Derived.ProofKit
import Derived.OpenShut
import Derived.ShutString
import Derived.ChangeOld
import Derived.Below
import Derived.Lib.SmallJoins
namespace Go.Proofs.Ytbdfnkhmnglpbaa.fnExactFitsDescriptor
open Go.ChangeShapes Go.WideShapes Go.ChangeAt Go.RowKit Go.Joins
open Go.ChangeMaps (open_string shut_string)
set_option linter.unusedVariables false
set_option linter.unusedSimpArgs false in set_option maxHeartbeats 4000000 in set_option maxRecDepth 100000 in
theorem walk (s0_0 : Int) (s0_1 : Int) (s0_2 : Int) (s0_3 : Int) (s0_4 : Bool) (s1_0 : Int) (s1_1 : Int) (s1_2 : Int) (s1_3 : Int) (s1_4 : Int) (s1_5 : Int) (s1_6 : Int) (a1 : Option Addr) (len1 cap1 : Nat) (z1 : List Int) (w : World) (w0_0 : (Lit.int .i64 s0_0).wf = true) (w0_1 : (Lit.int .i64 s0_1).wf = true) (w0_2 : (Lit.int .i64 s0_2).wf = true) (w0_3 : (Lit.int .i64 s0_3).wf = true) (w1 : IntRow w a1 len1 cap1 z1) (w1_0 : (Lit.int .i64 s1_0).wf = true) (w1_1 : (Lit.int .i64 s1_1).wf = true) (w1_2 : (Lit.int .i64 s1_2).wf = true) (w1_3 : (Lit.int .i64 s1_3).wf = true) (w1_4 : (Lit.int .i64 s1_4).wf = true) (w1_5 : (Lit.int .i64 s1_5).wf = true) (w1_6 : (Lit.int .i64 s1_6).wf = true) :
    Calls Try.prog 12 #[.agg #[.int .i64 s0_0, .int .i64 s0_1, .int .i64 s0_2, .int .i64 s0_3, .bool s0_4], .agg #[.int .i64 s1_0, .int .i64 s1_1, .int .i64 s1_2, .int .i64 s1_3, .int .i64 s1_4, .int .i64 s1_5, .int .i64 s1_6, .slice a1 len1 cap1]] w fun e w' => e = .returned (.bool true) ∧ Below w.heap.size w w' := by
  have hr := rd_of_row w1
  have hsm := IntRow.small w1
  clear w1
  generalize List.take len1 z1 = xs at hr
  obtain rfl : xs.length = len1 := hr.len
  clear w0_0 w0_1 w0_2 w0_3 w1_0 w1_1 w1_2 w1_3 w1_4 w1_5 w1_6
  have hB0 : FrameAt 66 ((w.alloc (.cells #[.int .i64 s0_0, .int .i64 s0_1, .int .i64 s0_2, .int .i64 s0_3, .bool s0_4] 75)).alloc (.cells #[.int .i64 s1_0, .int .i64 s1_1, .int .i64 s1_2, .int .i64 s1_3, .int .i64 s1_4, .int .i64 s1_5, .int .i64 s1_6, .slice a1 xs.length cap1] 66)) (w.heap.size + 1) s1_0 s1_1 s1_2 s1_3 s1_4 s1_5 s1_6 (.slice a1 xs.length cap1) := by
    have h := FrameAt.new (T := 66) (a := s1_0) (q := s1_1) (t := s1_2) (m := s1_3) (r := s1_4) (s := s1_5) (k := s1_6) (v := .slice a1 xs.length cap1) (w.alloc (.cells #[.int .i64 s0_0, .int .i64 s0_1, .int .i64 s0_2, .int .i64 s0_3, .bool s0_4] 75))
    rw [show (w.alloc (.cells #[.int .i64 s0_0, .int .i64 s0_1, .int .i64 s0_2, .int .i64 s0_3, .bool s0_4] 75)).heap.size = w.heap.size + 1 from by simp] at h
    exact h
  have hA0 : DescAt 75 ((w.alloc (.cells #[.int .i64 s0_0, .int .i64 s0_1, .int .i64 s0_2, .int .i64 s0_3, .bool s0_4] 75)).alloc (.cells #[.int .i64 s1_0, .int .i64 s1_1, .int .i64 s1_2, .int .i64 s1_3, .int .i64 s1_4, .int .i64 s1_5, .int .i64 s1_6, .slice a1 xs.length cap1] 66)) w.heap.size s0_0 s0_1 s0_2 s0_3 s0_4 := (DescAt.new w).below (Below.alloc (Below.refl _ _) (Nat.le_refl _) _) (by simp)
  have hW0 : Below w.heap.size w ((w.alloc (.cells #[.int .i64 s0_0, .int .i64 s0_1, .int .i64 s0_2, .int .i64 s0_3, .bool s0_4] 75)).alloc (.cells #[.int .i64 s1_0, .int .i64 s1_1, .int .i64 s1_2, .int .i64 s1_3, .int .i64 s1_4, .int .i64 s1_5, .int .i64 s1_6, .slice a1 xs.length cap1] 66)) := ((Below.refl _ _).alloc (Nat.le_refl _) _).alloc (by simp) _
  have A0 := Lib.hid hA0; have B0 := Lib.hid hB0; have HW0 := Lib.hid hW0; clear hA0 hB0 hW0
  by_cases hbig : xs.length ≤ 1048576
  rotate_left
  · go_enter Try.func12, Try.ntmps12
    go_wp2_with fail
    refine (szFrame_big _ _ _ _ _ _ _ _ _ _ _ (by omega) hsm).mono ?_
    rintro e w1 ⟨rfl, b1⟩
    go_wp2
    go_ret
    exact ⟨rfl, below_box2 b1⟩
  obtain ⟨r0, hF⟩ : ∃ r0, fits ⟨s0_0, s0_1, s0_2, s0_3, s0_4⟩ ⟨s1_0, s1_1, s1_2, s1_3, s1_4, s1_5, s1_6, xs⟩ = r0 := ⟨_, rfl⟩
  have HF := Lib.hid hF; clear hF
  replace hr := hr.below HW0.out
  have H : Held 2 ((w.alloc (.cells #[.int .i64 s0_0, .int .i64 s0_1, .int .i64 s0_2, .int .i64 s0_3, .bool s0_4] 75)).alloc (.cells #[.int .i64 s1_0, .int .i64 s1_1, .int .i64 s1_2, .int .i64 s1_3, .int .i64 s1_4, .int .i64 s1_5, .int .i64 s1_6, .slice a1 xs.length cap1] 66)) ((w.alloc (.cells #[.int .i64 s0_0, .int .i64 s0_1, .int .i64 s0_2, .int .i64 s0_3, .bool s0_4] 75)).alloc (.cells #[.int .i64 s1_0, .int .i64 s1_1, .int .i64 s1_2, .int .i64 s1_3, .int .i64 s1_4, .int .i64 s1_5, .int .i64 s1_6, .slice a1 xs.length cap1] 66)) [] := Held.start
  have hneg : ¬ (1048576 - (xs.length : Int) < 0) := by omega
  go_enter Try.func12, Try.ntmps12
  go_upto_region 1 with fail
  generalize (w.alloc (.cells #[.int .i64 s0_0, .int .i64 s0_1, .int .i64 s0_2, .int .i64 s0_3, .bool s0_4] 75)).alloc (.cells #[.int .i64 s1_0, .int .i64 s1_1, .int .i64 s1_2, .int .i64 s1_3, .int .i64 s1_4, .int .i64 s1_5, .int .i64 s1_6, .slice a1 xs.length cap1] 66) = wb at A0 B0 HW0 hr H ⊢
  obtain ⟨d0, d1, d2, d3, d4, d5, d6, d7⟩ := frame_cells (B0.out.below H.below B0.out.lt)
  go_wp2_with fail
  clear d0 d1 d2 d3 d4 d5 d6 d7
  refine (szFrame_ok _ _ _ _ _ _ _ _ _ _ _ hbig).mono ?_
  rintro e w1 ⟨rfl, b1⟩
  replace H := H.still b1
  clear b1
  go_upto_region 5 with fail
  replace H := H.still (Below.drew (Below.refl _ _))
  refine wp_region_held_drew (S := fun w' => (w'.cell? ⟨w.heap.size, 0, none⟩ = some (.int .i64 s0_0) ∧ w'.cell? ⟨w.heap.size, 1, none⟩ = some (.int .i64 s0_1) ∧ w'.cell? ⟨w.heap.size, 2, none⟩ = some (.int .i64 s0_2) ∧ w'.cell? ⟨w.heap.size, 3, none⟩ = some (.int .i64 s0_3) ∧ w'.cell? ⟨w.heap.size, 4, none⟩ = some (.bool s0_4)) ∧ (w'.cell? ⟨(w.heap.size + 1), 0, none⟩ = some (.int .i64 s1_0) ∧ w'.cell? ⟨(w.heap.size + 1), 1, none⟩ = some (.int .i64 s1_1) ∧ w'.cell? ⟨(w.heap.size + 1), 2, none⟩ = some (.int .i64 s1_2) ∧ w'.cell? ⟨(w.heap.size + 1), 3, none⟩ = some (.int .i64 s1_3) ∧ w'.cell? ⟨(w.heap.size + 1), 4, none⟩ = some (.int .i64 s1_4) ∧ w'.cell? ⟨(w.heap.size + 1), 5, none⟩ = some (.int .i64 s1_5) ∧ w'.cell? ⟨(w.heap.size + 1), 6, none⟩ = some (.int .i64 s1_6) ∧ w'.cell? ⟨(w.heap.size + 1), 7, none⟩ = some (.slice a1 xs.length cap1))) (by kernel_rfl) (⟨desc_cells (A0.out.below H.below A0.out.lt), frame_cells (B0.out.below H.below B0.out.lt)⟩) (fun hHeld => ?_)
  refine wpAnyH_take (i := 0) (v := ?_) rfl (by kernel_rfl) (by kernel_rfl) (by kernel_rfl) (fun _ _ _ h => h) (Or.inl ⟨by rfl, ?_⟩) (by assumption) ?_
  rotate_left
  · (intro w hSw; (try dsimp only at hSw); go_simp; (try with_reducible rfl))
  try simp only [List.getElem_toArray, List.getElem_cons_succ, List.getElem_cons_zero, Act.put, List.setIfInBounds_toArray, List.set_cons_zero, List.set_cons_succ]
  refine wpAnyH_take (i := 2) (v := ?_) rfl (by kernel_rfl) (by kernel_rfl) (by kernel_rfl) (fun _ _ _ h => h) (Or.inl ⟨by rfl, ?_⟩) (by assumption) ?_
  rotate_left
  · (intro w hSw; (try dsimp only at hSw); go_simp; (try with_reducible rfl))
  try simp only [List.getElem_toArray, List.getElem_cons_succ, List.getElem_cons_zero, Act.put, List.setIfInBounds_toArray, List.set_cons_zero, List.set_cons_succ]
  refine wpAnyH_ready (rs := [1]) (by kernel_rfl) (by simp) (AllReadyH.cons rfl (fun K hK => ?_) AllReadyH.nil)
  go_simp
  refine (toDescriptor_any _ _ _ _ _ _).mono ?_
  rintro e w2 ⟨rfl, b2⟩
  replace H := H.still b2
  clear b2
  go_wp2_with fail
  refine hK.out _ _ ?_ (fun hHeld => ?_)
  · exact ⟨desc_cells (A0.out.below H.below A0.out.lt), frame_cells (B0.out.below H.below B0.out.lt)⟩
  clear hK K
  try simp only [List.getElem_toArray, List.getElem_cons_succ, List.getElem_cons_zero, Act.put, List.setIfInBounds_toArray, List.set_cons_zero, List.set_cons_succ]
  refine wpAnyH_ready (rs := [3]) (by kernel_rfl) (by simp) (AllReadyH.cons rfl (fun K hK => ?_) AllReadyH.nil)
  go_simp
  refine (toFrame_any _ _ _ _ _ _ _ _ _ _ _ (hr.below H.below) hbig).mono ?_
  rintro e w3 ⟨p3, c3, rfl, o3, b3⟩
  replace H := H.make o3 b3
  clear o3 b3
  go_wp2_with fail
  refine hK.out _ _ ?_ (fun hHeld => ?_)
  · exact ⟨desc_cells (A0.out.below H.below A0.out.lt), frame_cells (B0.out.below H.below B0.out.lt)⟩
  clear hK K
  try simp only [List.getElem_toArray, List.getElem_cons_succ, List.getElem_cons_zero, Act.put, List.setIfInBounds_toArray, List.set_cons_zero, List.set_cons_succ]
  refine wpAnyH_ready (rs := [4]) (by kernel_rfl) (by simp) (AllReadyH.cons rfl (fun K hK => ?_) AllReadyH.nil)
  go_simp
  refine (sFits_any _ _ _ _ _ _ _ _ _ _ _ _ _ _ _ _ (H.rd 0 rfl rfl) hbig).mono ?_
  rintro e w4 ⟨rfl, b4⟩
  rw [HF.out]
  replace H := H.still b4
  clear b4
  go_wp2_with fail
  refine hK.out _ _ ?_ (fun hHeld => ?_)
  · exact ⟨desc_cells (A0.out.below H.below A0.out.lt), frame_cells (B0.out.below H.below B0.out.lt)⟩
  clear hK K
  try simp only [List.getElem_toArray, List.getElem_cons_succ, List.getElem_cons_zero, Act.put, List.setIfInBounds_toArray, List.set_cons_zero, List.set_cons_succ]
  refine wpAnyH_take (i := 5) (v := ?_) rfl (by kernel_rfl) (by kernel_rfl) (by kernel_rfl) (fun _ _ _ h => h) (Or.inl ⟨by rfl, ?_⟩) (by assumption) ?_
  rotate_left
  · (intro w hSw; (try dsimp only at hSw); go_simp; (try with_reducible rfl))
  try simp only [List.getElem_toArray, List.getElem_cons_succ, List.getElem_cons_zero, Act.put, List.setIfInBounds_toArray, List.set_cons_zero, List.set_cons_succ]
  refine wpAnyH_done (by kernel_rfl) ?_ _
  obtain ⟨d0, d1, d2, d3, d4, d5, d6, d7⟩ := frame_cells (B0.out.below H.below B0.out.lt)
  go_wp2_with fail
  clear d0 d1 d2 d3 d4 d5 d6 d7
  refine (toFrame_any _ _ _ _ _ _ _ _ _ _ _ (hr.below H.below) hbig).mono ?_
  rintro e w5 ⟨p5, c5, rfl, o5, b5⟩
  replace H := H.make o5 b5
  clear o5 b5
  go_upto_region 7 with fail
  have hal : Below w5.heap.size w5 (w5.alloc (.cells #[.int .i64 s1_0, .int .i64 s1_1, .int .i64 s1_2, .int .i64 s1_3, .int .i64 s1_4, .int .i64 s1_5, .int .i64 s1_6, .slice p5 xs.length c5] 28)) := (Below.refl _ _).alloc (Nat.le_refl _) _
  have X := FrameAt.new (T := 28) (a := s1_0) (q := s1_1) (t := s1_2) (m := s1_3) (r := s1_4) (s := s1_5) (k := s1_6) (v := .slice p5 xs.length c5) w5
  replace H := H.still hal
  clear hal
  obtain ⟨bX, hbX⟩ : ∃ b, b = w5.heap.size := ⟨_, rfl⟩
  rw [← hbX] at X ⊢
  clear hbX
  generalize w5.alloc (.cells #[.int .i64 s1_0, .int .i64 s1_1, .int .i64 s1_2, .int .i64 s1_3, .int .i64 s1_4, .int .i64 s1_5, .int .i64 s1_6, .slice p5 xs.length c5] 28) = w6 at X H ⊢
  go_upto_region 7 with fail
  replace X := X.below (Below.drew (Below.refl _ _)) X.lt
  replace H := H.still (Below.drew (Below.refl _ _))
  refine wp_region_held_drew (S := fun w' => (w'.cell? ⟨w.heap.size, 0, none⟩ = some (.int .i64 s0_0) ∧ w'.cell? ⟨w.heap.size, 1, none⟩ = some (.int .i64 s0_1) ∧ w'.cell? ⟨w.heap.size, 2, none⟩ = some (.int .i64 s0_2) ∧ w'.cell? ⟨w.heap.size, 3, none⟩ = some (.int .i64 s0_3) ∧ w'.cell? ⟨w.heap.size, 4, none⟩ = some (.bool s0_4)) ∧ (w'.cell? ⟨bX, 0, none⟩ = some (.int .i64 s1_0) ∧ w'.cell? ⟨bX, 1, none⟩ = some (.int .i64 s1_1) ∧ w'.cell? ⟨bX, 2, none⟩ = some (.int .i64 s1_2) ∧ w'.cell? ⟨bX, 3, none⟩ = some (.int .i64 s1_3) ∧ w'.cell? ⟨bX, 4, none⟩ = some (.int .i64 s1_4) ∧ w'.cell? ⟨bX, 5, none⟩ = some (.int .i64 s1_5) ∧ w'.cell? ⟨bX, 6, none⟩ = some (.int .i64 s1_6) ∧ w'.cell? ⟨bX, 7, none⟩ = some (.slice p5 xs.length c5))) (by kernel_rfl) (⟨desc_cells (A0.out.below H.below A0.out.lt), frame_cells X⟩) (fun hHeld => ?_)
  refine wpAnyH_take (i := 0) (v := ?_) rfl (by kernel_rfl) (by kernel_rfl) (by kernel_rfl) (fun _ _ _ h => h) (Or.inl ⟨by rfl, ?_⟩) (by assumption) ?_
  rotate_left
  · (intro w hSw; (try dsimp only at hSw); go_simp; (try with_reducible rfl))
  try simp only [List.getElem_toArray, List.getElem_cons_succ, List.getElem_cons_zero, Act.put, List.setIfInBounds_toArray, List.set_cons_zero, List.set_cons_succ]
  refine wpAnyH_take (i := 2) (v := ?_) rfl (by kernel_rfl) (by kernel_rfl) (by kernel_rfl) (fun _ _ _ h => h) (Or.inl ⟨by rfl, ?_⟩) (by assumption) ?_
  rotate_left
  · (intro w hSw; (try dsimp only at hSw); go_simp; (try with_reducible rfl))
  try simp only [List.getElem_toArray, List.getElem_cons_succ, List.getElem_cons_zero, Act.put, List.setIfInBounds_toArray, List.set_cons_zero, List.set_cons_succ]
  refine wpAnyH_ready (rs := [1]) (by kernel_rfl) (by simp) (AllReadyH.cons rfl (fun K hK => ?_) AllReadyH.nil)
  go_simp
  refine (toDescriptor_any _ _ _ _ _ _).mono ?_
  rintro e w7 ⟨rfl, b7⟩
  replace X := X.below b7 X.lt
  replace H := H.still b7
  clear b7
  go_wp2_with fail
  refine hK.out _ _ ?_ (fun hHeld => ?_)
  · exact ⟨desc_cells (A0.out.below H.below A0.out.lt), frame_cells X⟩
  clear hK K
  try simp only [List.getElem_toArray, List.getElem_cons_succ, List.getElem_cons_zero, Act.put, List.setIfInBounds_toArray, List.set_cons_zero, List.set_cons_succ]
  refine wpAnyH_ready (rs := [3]) (by kernel_rfl) (by simp) (AllReadyH.cons rfl (fun K hK => ?_) AllReadyH.nil)
  go_simp
  refine (fits_any _ _ _ _ _ _ _ _ _ _ _ _ _ _ _ _ (H.rd 0 rfl rfl) hbig).mono ?_
  rintro e w8 ⟨rfl, b8⟩
  rw [HF.out]
  replace X := X.below b8 X.lt
  replace H := H.still b8
  clear b8
  go_wp2_with fail
  refine hK.out _ _ ?_ (fun hHeld => ?_)
  · exact ⟨desc_cells (A0.out.below H.below A0.out.lt), frame_cells X⟩
  clear hK K
  try simp only [List.getElem_toArray, List.getElem_cons_succ, List.getElem_cons_zero, Act.put, List.setIfInBounds_toArray, List.set_cons_zero, List.set_cons_succ]
  refine wpAnyH_take (i := 4) (v := ?_) rfl (by kernel_rfl) (by kernel_rfl) (by kernel_rfl) (fun _ _ _ h => h) (Or.inl ⟨by rfl, ?_⟩) (by assumption) ?_
  rotate_left
  · (intro w hSw; (try dsimp only at hSw); go_simp; (try with_reducible rfl))
  try simp only [List.getElem_toArray, List.getElem_cons_succ, List.getElem_cons_zero, Act.put, List.setIfInBounds_toArray, List.set_cons_zero, List.set_cons_succ]
  refine wpAnyH_done (by kernel_rfl) ?_ _
  have n0 : (r0 != r0) = false := by simp
  go_upto_region 10 with fail
  replace X := X.below (Below.drew (Below.refl _ _)) X.lt
  replace H := H.still (Below.drew (Below.refl _ _))
  refine wp_region_held_drew (S := fun w' => (w'.cell? ⟨(w.heap.size + 1), 0, none⟩ = some (.int .i64 s1_0) ∧ w'.cell? ⟨(w.heap.size + 1), 1, none⟩ = some (.int .i64 s1_1) ∧ w'.cell? ⟨(w.heap.size + 1), 2, none⟩ = some (.int .i64 s1_2) ∧ w'.cell? ⟨(w.heap.size + 1), 3, none⟩ = some (.int .i64 s1_3) ∧ w'.cell? ⟨(w.heap.size + 1), 4, none⟩ = some (.int .i64 s1_4) ∧ w'.cell? ⟨(w.heap.size + 1), 5, none⟩ = some (.int .i64 s1_5) ∧ w'.cell? ⟨(w.heap.size + 1), 6, none⟩ = some (.int .i64 s1_6) ∧ w'.cell? ⟨(w.heap.size + 1), 7, none⟩ = some (.slice a1 xs.length cap1)) ∧ (w'.cell? ⟨bX, 0, none⟩ = some (.int .i64 s1_0) ∧ w'.cell? ⟨bX, 1, none⟩ = some (.int .i64 s1_1) ∧ w'.cell? ⟨bX, 2, none⟩ = some (.int .i64 s1_2) ∧ w'.cell? ⟨bX, 3, none⟩ = some (.int .i64 s1_3) ∧ w'.cell? ⟨bX, 4, none⟩ = some (.int .i64 s1_4) ∧ w'.cell? ⟨bX, 5, none⟩ = some (.int .i64 s1_5) ∧ w'.cell? ⟨bX, 6, none⟩ = some (.int .i64 s1_6) ∧ w'.cell? ⟨bX, 7, none⟩ = some (.slice p5 xs.length c5))) (by kernel_rfl) (⟨frame_cells (B0.out.below H.below B0.out.lt), frame_cells X⟩) (fun hHeld => ?_)
  refine wpAnyH_take (i := 0) (v := ?_) rfl (by kernel_rfl) (by kernel_rfl) (by kernel_rfl) (fun _ _ _ h => h) (Or.inl ⟨by rfl, ?_⟩) (by assumption) ?_
  rotate_left
  · (intro w hSw; (try dsimp only at hSw); go_simp; (try with_reducible rfl))
  try simp only [List.getElem_toArray, List.getElem_cons_succ, List.getElem_cons_zero, Act.put, List.setIfInBounds_toArray, List.set_cons_zero, List.set_cons_succ]
  refine wpAnyH_take (i := 1) (v := ?_) rfl (by kernel_rfl) (by kernel_rfl) (by kernel_rfl) (fun _ _ _ h => h) (Or.inl ⟨by rfl, ?_⟩) (by assumption) ?_
  rotate_left
  · (intro w hSw; (try dsimp only at hSw); go_simp; (try with_reducible rfl))
  try simp only [List.getElem_toArray, List.getElem_cons_succ, List.getElem_cons_zero, Act.put, List.setIfInBounds_toArray, List.set_cons_zero, List.set_cons_succ]
  refine wpAnyH_ready (rs := [2]) (by kernel_rfl) (by simp) (AllReadyH.cons rfl (fun K hK => ?_) AllReadyH.nil)
  go_simp
  refine (toFrame_any _ _ _ _ _ _ _ _ _ _ _ (hr.below H.below) hbig).mono ?_
  rintro e w9 ⟨p9, c9, rfl, o9, b9⟩
  replace X := X.below b9 X.lt
  replace H := H.make o9 b9
  clear o9 b9
  go_wp2_with fail
  refine hK.out _ _ ?_ (fun hHeld => ?_)
  · exact ⟨frame_cells (B0.out.below H.below B0.out.lt), frame_cells X⟩
  clear hK K
  try simp only [List.getElem_toArray, List.getElem_cons_succ, List.getElem_cons_zero, Act.put, List.setIfInBounds_toArray, List.set_cons_zero, List.set_cons_succ]
  refine wpAnyH_ready (rs := [3]) (by kernel_rfl) (by simp) (AllReadyH.cons rfl (fun K hK => ?_) AllReadyH.nil)
  go_simp
  refine (eqFrame_yes _ _ _ _ _ _ _ _ _ _ _ _ _ (H.rd 1 rfl rfl) (H.rd 0 rfl rfl) hbig).mono ?_
  rintro e w10 ⟨rfl, b10⟩
  replace X := X.below b10 X.lt
  replace H := H.still b10
  clear b10
  go_wp2_with fail
  refine hK.out _ _ ?_ (fun hHeld => ?_)
  · exact ⟨frame_cells (B0.out.below H.below B0.out.lt), frame_cells X⟩
  clear hK K
  try simp only [List.getElem_toArray, List.getElem_cons_succ, List.getElem_cons_zero, Act.put, List.setIfInBounds_toArray, List.set_cons_zero, List.set_cons_succ]
  refine wpAnyH_take (i := 4) (v := ?_) rfl (by kernel_rfl) (by kernel_rfl) (by kernel_rfl) (fun _ _ _ h => h) (Or.inl ⟨by rfl, ?_⟩) (by assumption) ?_
  rotate_left
  · (intro w hSw; (try dsimp only at hSw); go_simp; (try with_reducible rfl))
  try simp only [List.getElem_toArray, List.getElem_cons_succ, List.getElem_cons_zero, Act.put, List.setIfInBounds_toArray, List.set_cons_zero, List.set_cons_succ]
  refine wpAnyH_done (by kernel_rfl) ?_ _
  go_wp2_with fail
  go_ret
  exact ⟨rfl, HW0.out.trans (H.below.mono HW0.out.size)⟩
end Go.Proofs.Ytbdfnkhmnglpbaa.fnExactFitsDescriptor
