/-
  The walk of laws.FnExactSealFrame: at every input it returns true and writes nothing that was there.
-/
import Derived.Test.YtbdfnkhmnglpbaaRows
import Derived.Test.YtbdfnkhmnglpbaaH7
import Derived.Test.YtbdfnkhmnglpbaaBase
import Derived.Test.YtbdfnkhmnglpbaaSixC
import Derived.Test.YtbdfnkhmnglpbaaFourA
import Derived.WalkKit
import Derived.ProofKit
import Derived.OpenShut
import Derived.ShutString
import Derived.ChangeOld
import Derived.Below
import Derived.Lib.SmallJoins
namespace Go.Proofs.Ytbdfnkhmnglpbaa.fnExactSealFrame
open Go.ChangeShapes Go.WideShapes Go.ChangeAt Go.RowKit Go.Joins
open Go.ChangeMaps (open_string shut_string)
set_option linter.unusedVariables false
set_option linter.unusedSimpArgs false in set_option maxHeartbeats 2000000 in set_option maxRecDepth 100000 in
theorem walk (s0_0 : Int) (s0_1 : Int) (s0_2 : Int) (s0_3 : Int) (s0_4 : Int) (s0_5 : Int) (s0_6 : Int) (a0 : Option Addr) (len0 cap0 : Nat) (z0 : List Int) (a1 : Int) (s2_0 : Int) (s2_1 : Int) (s2_2 : Int) (s2_3 : Int) (s2_4 : Int) (w : World) (w0 : IntRow w a0 len0 cap0 z0) (w0_0 : (Lit.int .i64 s0_0).wf = true) (w0_1 : (Lit.int .i64 s0_1).wf = true) (w0_2 : (Lit.int .i64 s0_2).wf = true) (w0_3 : (Lit.int .i64 s0_3).wf = true) (w0_4 : (Lit.int .i64 s0_4).wf = true) (w0_5 : (Lit.int .i64 s0_5).wf = true) (w0_6 : (Lit.int .i64 s0_6).wf = true) (w1 : (Lit.int .i64 a1).wf = true) (w2_0 : (Lit.int .i64 s2_0).wf = true) (w2_1 : (Lit.int .i64 s2_1).wf = true) (w2_2 : (Lit.int .i64 s2_2).wf = true) (w2_3 : (Lit.int .i64 s2_3).wf = true) (w2_4 : (Lit.int .i64 s2_4).wf = true) :
    Calls Try.prog 8 #[.agg #[.int .i64 s0_0, .int .i64 s0_1, .int .i64 s0_2, .int .i64 s0_3, .int .i64 s0_4, .int .i64 s0_5, .int .i64 s0_6, .slice a0 len0 cap0], .int .i64 a1, .agg #[.int .i64 s2_0, .int .i64 s2_1, .int .i64 s2_2, .int .i64 s2_3, .int .i64 s2_4]] w fun e w' => e = .returned (.bool true) ∧ Below w.heap.size w w' := by
  have hr := rd_of_row w0
  have hsm := IntRow.small w0
  clear w0
  generalize List.take len0 z0 = xs at hr
  obtain rfl : xs.length = len0 := hr.len
  clear w0_0 w0_1 w0_2 w0_3 w0_4 w0_5 w0_6 w2_0 w2_1 w2_2 w2_3 w2_4
  have hA0 : FrameAt 66 ((w.alloc (.cells #[.int .i64 s0_0, .int .i64 s0_1, .int .i64 s0_2, .int .i64 s0_3, .int .i64 s0_4, .int .i64 s0_5, .int .i64 s0_6, .slice a0 xs.length cap0] 66)).alloc (.cells #[.int .i64 s2_0, .int .i64 s2_1, .int .i64 s2_2, .int .i64 s2_3, .int .i64 s2_4] 64)) w.heap.size s0_0 s0_1 s0_2 s0_3 s0_4 s0_5 s0_6 (.slice a0 xs.length cap0) := (FrameAt.new w).below (Below.alloc (Below.refl _ _) (Nat.le_refl _) _) (by simp)
  have hB0 : StateAt 64 ((w.alloc (.cells #[.int .i64 s0_0, .int .i64 s0_1, .int .i64 s0_2, .int .i64 s0_3, .int .i64 s0_4, .int .i64 s0_5, .int .i64 s0_6, .slice a0 xs.length cap0] 66)).alloc (.cells #[.int .i64 s2_0, .int .i64 s2_1, .int .i64 s2_2, .int .i64 s2_3, .int .i64 s2_4] 64)) (w.heap.size + 1) s2_0 s2_1 s2_2 s2_3 s2_4 := by
    have h := StateAt.new (T := 64) (t := s2_0) (m := s2_1) (r := s2_2) (s := s2_3) (k := s2_4) (w.alloc (.cells #[.int .i64 s0_0, .int .i64 s0_1, .int .i64 s0_2, .int .i64 s0_3, .int .i64 s0_4, .int .i64 s0_5, .int .i64 s0_6, .slice a0 xs.length cap0] 66))
    rw [show (w.alloc (.cells #[.int .i64 s0_0, .int .i64 s0_1, .int .i64 s0_2, .int .i64 s0_3, .int .i64 s0_4, .int .i64 s0_5, .int .i64 s0_6, .slice a0 xs.length cap0] 66)).heap.size = w.heap.size + 1 from by simp] at h
    exact h
  have hW0 : Below w.heap.size w ((w.alloc (.cells #[.int .i64 s0_0, .int .i64 s0_1, .int .i64 s0_2, .int .i64 s0_3, .int .i64 s0_4, .int .i64 s0_5, .int .i64 s0_6, .slice a0 xs.length cap0] 66)).alloc (.cells #[.int .i64 s2_0, .int .i64 s2_1, .int .i64 s2_2, .int .i64 s2_3, .int .i64 s2_4] 64)) := ((Below.refl _ _).alloc (Nat.le_refl _) _).alloc (by simp) _
  have A0 := Lib.hid hA0; have B0 := Lib.hid hB0; have HW0 := Lib.hid hW0; clear hB0 hW0 hA0
  by_cases hbig : xs.length ≤ 1048576
  rotate_left
  · go_enter Try.func8, Try.ntmps8
    go_wp2_with fail
    refine (szFrame_big _ _ _ _ _ _ _ _ _ _ _ (by omega) hsm).mono ?_
    rintro e w1 ⟨rfl, b1⟩
    go_wp2
    go_ret
    exact ⟨rfl, below_box2 b1⟩
  obtain ⟨r0, r1, hF⟩ : ∃ r0 r1, sealFrame ⟨s0_0, s0_1, s0_2, s0_3, s0_4, s0_5, s0_6, xs⟩ a1 s2_0 s2_1 s2_2 s2_3 s2_4 = (r0, r1) := ⟨_, _, rfl⟩
  have hlen : r0.length ≤ 1048576 := by have h := sealFrame_len ⟨s0_0, s0_1, s0_2, s0_3, s0_4, s0_5, s0_6, xs⟩ a1 s2_0 s2_1 s2_2 s2_3 s2_4; rw [hF] at h; exact Nat.le_trans h (by omega)
  have HF := Lib.hid hF; clear hF
  replace hr := hr.below HW0.out
  have H : Held 2 ((w.alloc (.cells #[.int .i64 s0_0, .int .i64 s0_1, .int .i64 s0_2, .int .i64 s0_3, .int .i64 s0_4, .int .i64 s0_5, .int .i64 s0_6, .slice a0 xs.length cap0] 66)).alloc (.cells #[.int .i64 s2_0, .int .i64 s2_1, .int .i64 s2_2, .int .i64 s2_3, .int .i64 s2_4] 64)) ((w.alloc (.cells #[.int .i64 s0_0, .int .i64 s0_1, .int .i64 s0_2, .int .i64 s0_3, .int .i64 s0_4, .int .i64 s0_5, .int .i64 s0_6, .slice a0 xs.length cap0] 66)).alloc (.cells #[.int .i64 s2_0, .int .i64 s2_1, .int .i64 s2_2, .int .i64 s2_3, .int .i64 s2_4] 64)) [] := Held.start
  have hneg : ¬ (1048576 - (xs.length : Int) < 0) := by omega
  go_enter Try.func8, Try.ntmps8
  go_upto_region 1 with fail
  generalize (w.alloc (.cells #[.int .i64 s0_0, .int .i64 s0_1, .int .i64 s0_2, .int .i64 s0_3, .int .i64 s0_4, .int .i64 s0_5, .int .i64 s0_6, .slice a0 xs.length cap0] 66)).alloc (.cells #[.int .i64 s2_0, .int .i64 s2_1, .int .i64 s2_2, .int .i64 s2_3, .int .i64 s2_4] 64) = wb at A0 B0 HW0 hr H ⊢
  obtain ⟨c0, c1, c2, c3, c4, c5, c6, c7⟩ := frame_cells (A0.out.below H.below A0.out.lt)
  go_wp2_with fail
  clear c0 c1 c2 c3 c4 c5 c6 c7
  refine (szFrame_ok _ _ _ _ _ _ _ _ _ _ _ hbig).mono ?_
  rintro e w1 ⟨rfl, b1⟩
  replace H := H.still b1
  clear b1
  go_upto_region 5 with fail
  replace H := H.still (Below.drew (Below.refl _ _))
  refine wp_region_held_drew (S := fun w' => (w'.cell? ⟨w.heap.size, 0, none⟩ = some (.int .i64 s0_0) ∧ w'.cell? ⟨w.heap.size, 1, none⟩ = some (.int .i64 s0_1) ∧ w'.cell? ⟨w.heap.size, 2, none⟩ = some (.int .i64 s0_2) ∧ w'.cell? ⟨w.heap.size, 3, none⟩ = some (.int .i64 s0_3) ∧ w'.cell? ⟨w.heap.size, 4, none⟩ = some (.int .i64 s0_4) ∧ w'.cell? ⟨w.heap.size, 5, none⟩ = some (.int .i64 s0_5) ∧ w'.cell? ⟨w.heap.size, 6, none⟩ = some (.int .i64 s0_6) ∧ w'.cell? ⟨w.heap.size, 7, none⟩ = some (.slice a0 xs.length cap0)) ∧ (w'.cell? ⟨w.heap.size + 1, 0, none⟩ = some (.int .i64 s2_0) ∧ w'.cell? ⟨w.heap.size + 1, 1, none⟩ = some (.int .i64 s2_1) ∧ w'.cell? ⟨w.heap.size + 1, 2, none⟩ = some (.int .i64 s2_2) ∧ w'.cell? ⟨w.heap.size + 1, 3, none⟩ = some (.int .i64 s2_3) ∧ w'.cell? ⟨w.heap.size + 1, 4, none⟩ = some (.int .i64 s2_4))) (by kernel_rfl) (⟨frame_cells (A0.out.below H.below A0.out.lt), state_cells (B0.out.below H.below B0.out.lt)⟩) (fun hHeld => ?_)
  refine wpAnyH_take (i := 0) (v := ?_) rfl (by kernel_rfl) (by kernel_rfl) (by kernel_rfl) (fun _ _ _ h => h) (Or.inl ⟨by rfl, ?_⟩) (by assumption) ?_
  rotate_left
  · (intro w hSw; (try dsimp only at hSw); go_simp; (try with_reducible rfl))
  try simp only [List.getElem_toArray, List.getElem_cons_succ, List.getElem_cons_zero, Act.put, List.setIfInBounds_toArray, List.set_cons_zero, List.set_cons_succ]
  refine wpAnyH_take (i := 2) (v := ?_) rfl (by kernel_rfl) (by kernel_rfl) (by kernel_rfl) (fun _ _ _ h => h) (Or.inl ⟨by rfl, ?_⟩) (by assumption) ?_
  rotate_left
  · (intro w hSw; (try dsimp only at hSw); go_simp; (try with_reducible rfl))
  try simp only [List.getElem_toArray, List.getElem_cons_succ, List.getElem_cons_zero, Act.put, List.setIfInBounds_toArray, List.set_cons_zero, List.set_cons_succ]
  refine wpAnyH_take (i := 3) (v := ?_) rfl (by kernel_rfl) (by kernel_rfl) (by kernel_rfl) (fun _ _ _ h => h) (Or.inl ⟨by rfl, ?_⟩) (by assumption) ?_
  rotate_left
  · (intro w hSw; (try dsimp only at hSw); go_simp; (try with_reducible rfl))
  try simp only [List.getElem_toArray, List.getElem_cons_succ, List.getElem_cons_zero, Act.put, List.setIfInBounds_toArray, List.set_cons_zero, List.set_cons_succ]
  refine wpAnyH_ready (rs := [1]) (by kernel_rfl) (by simp) (AllReadyH.cons rfl (fun K hK => ?_) AllReadyH.nil)
  go_simp
  refine (toFrame_any _ _ _ _ _ _ _ _ _ _ _ (hr.below H.below) hbig).mono ?_
  rintro e w2 ⟨p2, c2, rfl, o2, b2⟩
  replace H := H.make o2 b2
  clear o2 b2
  go_wp2_with fail
  refine hK.out _ _ ?_ (fun hHeld => ?_)
  · exact ⟨frame_cells (A0.out.below H.below A0.out.lt), state_cells (B0.out.below H.below B0.out.lt)⟩
  clear hK K
  try simp only [List.getElem_toArray, List.getElem_cons_succ, List.getElem_cons_zero, Act.put, List.setIfInBounds_toArray, List.set_cons_zero, List.set_cons_succ]
  refine wpAnyH_ready (rs := [4]) (by kernel_rfl) (by simp) (AllReadyH.cons rfl (fun K hK => ?_) AllReadyH.nil)
  go_simp
  refine (toState_any _ _ _ _ _ _).mono ?_
  rintro e w3 ⟨rfl, b3⟩
  replace H := H.still b3
  clear b3
  go_wp2_with fail
  refine hK.out _ _ ?_ (fun hHeld => ?_)
  · exact ⟨frame_cells (A0.out.below H.below A0.out.lt), state_cells (B0.out.below H.below B0.out.lt)⟩
  clear hK K
  try simp only [List.getElem_toArray, List.getElem_cons_succ, List.getElem_cons_zero, Act.put, List.setIfInBounds_toArray, List.set_cons_zero, List.set_cons_succ]
  refine wpAnyH_ready (rs := [5]) (by kernel_rfl) (by simp) (AllReadyH.cons rfl (fun K hK => ?_) AllReadyH.nil)
  go_simp
  refine (sSealFrame_any _ _ _ _ _ _ _ _ _ _ _ _ _ _ _ _ _ (H.rd 0 rfl rfl) hbig).mono ?_
  rintro e w4 m4
  rw [HF.out] at m4
  change Makes2 2 _ r0 r1 _ _ at m4
  obtain ⟨p4, c4, rfl, o4, -, b4⟩ := m4.get
  clear m4
  replace H := H.make o4 b4
  clear o4 b4
  go_wp2_with fail
  refine hK.out _ _ ?_ (fun hHeld => ?_)
  · exact ⟨frame_cells (A0.out.below H.below A0.out.lt), state_cells (B0.out.below H.below B0.out.lt)⟩
  clear hK K
  try simp only [List.getElem_toArray, List.getElem_cons_succ, List.getElem_cons_zero, Act.put, List.setIfInBounds_toArray, List.set_cons_zero, List.set_cons_succ]
  refine wpAnyH_take (i := 6) (v := ?_) rfl (by kernel_rfl) (by kernel_rfl) (by kernel_rfl) (fun _ _ _ h => h) (Or.inl ⟨by rfl, ?_⟩) (by assumption) ?_
  rotate_left
  · (intro w hSw; (try dsimp only at hSw); go_simp; (try with_reducible rfl))
  try simp only [List.getElem_toArray, List.getElem_cons_succ, List.getElem_cons_zero, Act.put, List.setIfInBounds_toArray, List.set_cons_zero, List.set_cons_succ]
  refine wpAnyH_take (i := 7) (v := ?_) rfl (by kernel_rfl) (by kernel_rfl) (by kernel_rfl) (fun _ _ _ h => h) (Or.inl ⟨by rfl, ?_⟩) (by assumption) ?_
  rotate_left
  · (intro w hSw; (try dsimp only at hSw); go_simp; (try with_reducible rfl))
  try simp only [List.getElem_toArray, List.getElem_cons_succ, List.getElem_cons_zero, Act.put, List.setIfInBounds_toArray, List.set_cons_zero, List.set_cons_succ]
  refine wpAnyH_take (i := 8) (v := ?_) rfl (by kernel_rfl) (by kernel_rfl) (by kernel_rfl) (fun _ _ _ h => h) (Or.inl ⟨by rfl, ?_⟩) (by assumption) ?_
  rotate_left
  · (intro w hSw; (try dsimp only at hSw); go_simp; (try with_reducible rfl))
  try simp only [List.getElem_toArray, List.getElem_cons_succ, List.getElem_cons_zero, Act.put, List.setIfInBounds_toArray, List.set_cons_zero, List.set_cons_succ]
  refine wpAnyH_take (i := 9) (v := ?_) rfl (by kernel_rfl) (by kernel_rfl) (by kernel_rfl) (fun _ _ _ h => h) (Or.inl ⟨by rfl, ?_⟩) (by assumption) ?_
  rotate_left
  · (intro w hSw; (try dsimp only at hSw); go_simp; (try with_reducible rfl))
  try simp only [List.getElem_toArray, List.getElem_cons_succ, List.getElem_cons_zero, Act.put, List.setIfInBounds_toArray, List.set_cons_zero, List.set_cons_succ]
  refine wpAnyH_take (i := 10) (v := ?_) rfl (by kernel_rfl) (by kernel_rfl) (by kernel_rfl) (fun _ _ _ h => h) (Or.inl ⟨by rfl, ?_⟩) (by assumption) ?_
  rotate_left
  · (intro w hSw; (try dsimp only at hSw); go_simp; (try with_reducible rfl))
  try simp only [List.getElem_toArray, List.getElem_cons_succ, List.getElem_cons_zero, Act.put, List.setIfInBounds_toArray, List.set_cons_zero, List.set_cons_succ]
  refine wpAnyH_done (by kernel_rfl) ?_ _
  obtain ⟨c0, c1, c2, c3, c4, c5, c6, c7⟩ := frame_cells (A0.out.below H.below A0.out.lt)
  go_wp2_with fail
  clear c0 c1 c2 c3 c4 c5 c6 c7
  refine (toFrame_any _ _ _ _ _ _ _ _ _ _ _ (hr.below H.below) hbig).mono ?_
  rintro e w5 ⟨p5, c5, rfl, o5, b5⟩
  replace H := H.make o5 b5
  clear o5 b5
  go_upto_region 7 with fail
  have hal : Below w5.heap.size w5 (w5.alloc (.cells #[.int .i64 s0_0, .int .i64 s0_1, .int .i64 s0_2, .int .i64 s0_3, .int .i64 s0_4, .int .i64 s0_5, .int .i64 s0_6, .slice p5 xs.length c5] 28)) := (Below.refl _ _).alloc (Nat.le_refl _) _
  have X := FrameAt.new (T := 28) (a := s0_0) (q := s0_1) (t := s0_2) (m := s0_3) (r := s0_4) (s := s0_5) (k := s0_6) (v := .slice p5 xs.length c5) w5
  replace H := H.still hal
  clear hal
  obtain ⟨bX, hbX⟩ : ∃ b, b = w5.heap.size := ⟨_, rfl⟩
  rw [← hbX] at X ⊢
  clear hbX
  generalize w5.alloc (.cells #[.int .i64 s0_0, .int .i64 s0_1, .int .i64 s0_2, .int .i64 s0_3, .int .i64 s0_4, .int .i64 s0_5, .int .i64 s0_6, .slice p5 xs.length c5] 28) = w6 at X H ⊢
  go_upto_region 7 with fail
  replace X := X.below (Below.drew (Below.refl _ _)) X.lt
  replace H := H.still (Below.drew (Below.refl _ _))
  refine wp_region_held_drew (S := fun w' => (w'.cell? ⟨bX, 0, none⟩ = some (.int .i64 s0_0) ∧ w'.cell? ⟨bX, 1, none⟩ = some (.int .i64 s0_1) ∧ w'.cell? ⟨bX, 2, none⟩ = some (.int .i64 s0_2) ∧ w'.cell? ⟨bX, 3, none⟩ = some (.int .i64 s0_3) ∧ w'.cell? ⟨bX, 4, none⟩ = some (.int .i64 s0_4) ∧ w'.cell? ⟨bX, 5, none⟩ = some (.int .i64 s0_5) ∧ w'.cell? ⟨bX, 6, none⟩ = some (.int .i64 s0_6) ∧ w'.cell? ⟨bX, 7, none⟩ = some (.slice p5 xs.length c5)) ∧ (w'.cell? ⟨w.heap.size + 1, 0, none⟩ = some (.int .i64 s2_0) ∧ w'.cell? ⟨w.heap.size + 1, 1, none⟩ = some (.int .i64 s2_1) ∧ w'.cell? ⟨w.heap.size + 1, 2, none⟩ = some (.int .i64 s2_2) ∧ w'.cell? ⟨w.heap.size + 1, 3, none⟩ = some (.int .i64 s2_3) ∧ w'.cell? ⟨w.heap.size + 1, 4, none⟩ = some (.int .i64 s2_4))) (by kernel_rfl) (⟨frame_cells X, state_cells (B0.out.below H.below B0.out.lt)⟩) (fun hHeld => ?_)
  refine wpAnyH_take (i := 0) (v := ?_) rfl (by kernel_rfl) (by kernel_rfl) (by kernel_rfl) (fun _ _ _ h => h) (Or.inl ⟨by rfl, ?_⟩) (by assumption) ?_
  rotate_left
  · (intro w hSw; (try dsimp only at hSw); go_simp; (try with_reducible rfl))
  try simp only [List.getElem_toArray, List.getElem_cons_succ, List.getElem_cons_zero, Act.put, List.setIfInBounds_toArray, List.set_cons_zero, List.set_cons_succ]
  refine wpAnyH_take (i := 1) (v := ?_) rfl (by kernel_rfl) (by kernel_rfl) (by kernel_rfl) (fun _ _ _ h => h) (Or.inl ⟨by rfl, ?_⟩) (by assumption) ?_
  rotate_left
  · (intro w hSw; (try dsimp only at hSw); go_simp; (try with_reducible rfl))
  try simp only [List.getElem_toArray, List.getElem_cons_succ, List.getElem_cons_zero, Act.put, List.setIfInBounds_toArray, List.set_cons_zero, List.set_cons_succ]
  refine wpAnyH_take (i := 2) (v := ?_) rfl (by kernel_rfl) (by kernel_rfl) (by kernel_rfl) (fun _ _ _ h => h) (Or.inl ⟨by rfl, ?_⟩) (by assumption) ?_
  rotate_left
  · (intro w hSw; (try dsimp only at hSw); go_simp; (try with_reducible rfl))
  try simp only [List.getElem_toArray, List.getElem_cons_succ, List.getElem_cons_zero, Act.put, List.setIfInBounds_toArray, List.set_cons_zero, List.set_cons_succ]
  refine wpAnyH_ready (rs := [3]) (by kernel_rfl) (by simp) (AllReadyH.cons rfl (fun K hK => ?_) AllReadyH.nil)
  go_simp
  refine (toState_any _ _ _ _ _ _).mono ?_
  rintro e w7 ⟨rfl, b7⟩
  replace X := X.below b7 X.lt
  replace H := H.still b7
  clear b7
  go_wp2_with fail
  refine hK.out _ _ ?_ (fun hHeld => ?_)
  · exact ⟨frame_cells X, state_cells (B0.out.below H.below B0.out.lt)⟩
  clear hK K
  try simp only [List.getElem_toArray, List.getElem_cons_succ, List.getElem_cons_zero, Act.put, List.setIfInBounds_toArray, List.set_cons_zero, List.set_cons_succ]
  refine wpAnyH_ready (rs := [4]) (by kernel_rfl) (by simp) (AllReadyH.cons rfl (fun K hK => ?_) AllReadyH.nil)
  go_simp
  refine (sealFrame_any _ _ _ _ _ _ _ _ _ _ _ _ _ _ _ _ _ (H.rd 0 rfl rfl) hbig).mono ?_
  rintro e w8 m8
  rw [HF.out] at m8
  change Makes2 2 _ r0 r1 _ _ at m8
  obtain ⟨p8, c8, rfl, o8, -, b8⟩ := m8.get
  clear m8
  replace X := X.below b8 X.lt
  replace H := H.make o8 b8
  clear o8 b8
  go_wp2_with fail
  refine hK.out _ _ ?_ (fun hHeld => ?_)
  · exact ⟨frame_cells X, state_cells (B0.out.below H.below B0.out.lt)⟩
  clear hK K
  try simp only [List.getElem_toArray, List.getElem_cons_succ, List.getElem_cons_zero, Act.put, List.setIfInBounds_toArray, List.set_cons_zero, List.set_cons_succ]
  refine wpAnyH_take (i := 5) (v := ?_) rfl (by kernel_rfl) (by kernel_rfl) (by kernel_rfl) (fun _ _ _ h => h) (Or.inl ⟨by rfl, ?_⟩) (by assumption) ?_
  rotate_left
  · (intro w hSw; (try dsimp only at hSw); go_simp; (try with_reducible rfl))
  try simp only [List.getElem_toArray, List.getElem_cons_succ, List.getElem_cons_zero, Act.put, List.setIfInBounds_toArray, List.set_cons_zero, List.set_cons_succ]
  refine wpAnyH_take (i := 6) (v := ?_) rfl (by kernel_rfl) (by kernel_rfl) (by kernel_rfl) (fun _ _ _ h => h) (Or.inl ⟨by rfl, ?_⟩) (by assumption) ?_
  rotate_left
  · (intro w hSw; (try dsimp only at hSw); go_simp; (try with_reducible rfl))
  try simp only [List.getElem_toArray, List.getElem_cons_succ, List.getElem_cons_zero, Act.put, List.setIfInBounds_toArray, List.set_cons_zero, List.set_cons_succ]
  refine wpAnyH_take (i := 7) (v := ?_) rfl (by kernel_rfl) (by kernel_rfl) (by kernel_rfl) (fun _ _ _ h => h) (Or.inl ⟨by rfl, ?_⟩) (by assumption) ?_
  rotate_left
  · (intro w hSw; (try dsimp only at hSw); go_simp; (try with_reducible rfl))
  try simp only [List.getElem_toArray, List.getElem_cons_succ, List.getElem_cons_zero, Act.put, List.setIfInBounds_toArray, List.set_cons_zero, List.set_cons_succ]
  refine wpAnyH_take (i := 8) (v := ?_) rfl (by kernel_rfl) (by kernel_rfl) (by kernel_rfl) (fun _ _ _ h => h) (Or.inl ⟨by rfl, ?_⟩) (by assumption) ?_
  rotate_left
  · (intro w hSw; (try dsimp only at hSw); go_simp; (try with_reducible rfl))
  try simp only [List.getElem_toArray, List.getElem_cons_succ, List.getElem_cons_zero, Act.put, List.setIfInBounds_toArray, List.set_cons_zero, List.set_cons_succ]
  refine wpAnyH_take (i := 9) (v := ?_) rfl (by kernel_rfl) (by kernel_rfl) (by kernel_rfl) (fun _ _ _ h => h) (Or.inl ⟨by rfl, ?_⟩) (by assumption) ?_
  rotate_left
  · (intro w hSw; (try dsimp only at hSw); go_simp; (try with_reducible rfl))
  try simp only [List.getElem_toArray, List.getElem_cons_succ, List.getElem_cons_zero, Act.put, List.setIfInBounds_toArray, List.set_cons_zero, List.set_cons_succ]
  refine wpAnyH_done (by kernel_rfl) ?_ _
  go_wp2_with fail
  refine (eq_yes _ _ _ _ _ _ _ _ (H.rd 0 rfl rfl) (H.rd 2 rfl rfl) (by omega)).mono ?_
  rintro e w9 ⟨rfl, b9⟩
  replace X := X.below b9 X.lt
  replace H := H.still b9
  clear b9
  go_upto_region 10 with fail
  replace X := X.below (Below.drew (Below.refl _ _)) X.lt
  replace H := H.still (Below.drew (Below.refl _ _))
  refine wp_region_held_drew (S := fun w' => (w'.cell? ⟨w.heap.size, 0, none⟩ = some (.int .i64 s0_0) ∧ w'.cell? ⟨w.heap.size, 1, none⟩ = some (.int .i64 s0_1) ∧ w'.cell? ⟨w.heap.size, 2, none⟩ = some (.int .i64 s0_2) ∧ w'.cell? ⟨w.heap.size, 3, none⟩ = some (.int .i64 s0_3) ∧ w'.cell? ⟨w.heap.size, 4, none⟩ = some (.int .i64 s0_4) ∧ w'.cell? ⟨w.heap.size, 5, none⟩ = some (.int .i64 s0_5) ∧ w'.cell? ⟨w.heap.size, 6, none⟩ = some (.int .i64 s0_6) ∧ w'.cell? ⟨w.heap.size, 7, none⟩ = some (.slice a0 xs.length cap0)) ∧ (w'.cell? ⟨bX, 0, none⟩ = some (.int .i64 s0_0) ∧ w'.cell? ⟨bX, 1, none⟩ = some (.int .i64 s0_1) ∧ w'.cell? ⟨bX, 2, none⟩ = some (.int .i64 s0_2) ∧ w'.cell? ⟨bX, 3, none⟩ = some (.int .i64 s0_3) ∧ w'.cell? ⟨bX, 4, none⟩ = some (.int .i64 s0_4) ∧ w'.cell? ⟨bX, 5, none⟩ = some (.int .i64 s0_5) ∧ w'.cell? ⟨bX, 6, none⟩ = some (.int .i64 s0_6) ∧ w'.cell? ⟨bX, 7, none⟩ = some (.slice p5 xs.length c5)) ∧ (w'.cell? ⟨w.heap.size + 1, 0, none⟩ = some (.int .i64 s2_0) ∧ w'.cell? ⟨w.heap.size + 1, 1, none⟩ = some (.int .i64 s2_1) ∧ w'.cell? ⟨w.heap.size + 1, 2, none⟩ = some (.int .i64 s2_2) ∧ w'.cell? ⟨w.heap.size + 1, 3, none⟩ = some (.int .i64 s2_3) ∧ w'.cell? ⟨w.heap.size + 1, 4, none⟩ = some (.int .i64 s2_4))) (by kernel_rfl) (⟨frame_cells (A0.out.below H.below A0.out.lt), frame_cells X, state_cells (B0.out.below H.below B0.out.lt)⟩) (fun hHeld => ?_)
  refine wpAnyH_take (i := 0) (v := ?_) rfl (by kernel_rfl) (by kernel_rfl) (by kernel_rfl) (fun _ _ _ h => h) (Or.inl ⟨by rfl, ?_⟩) (by assumption) ?_
  rotate_left
  · (intro w hSw; (try dsimp only at hSw); go_simp; (try with_reducible rfl))
  try simp only [List.getElem_toArray, List.getElem_cons_succ, List.getElem_cons_zero, Act.put, List.setIfInBounds_toArray, List.set_cons_zero, List.set_cons_succ]
  refine wpAnyH_take (i := 1) (v := ?_) rfl (by kernel_rfl) (by kernel_rfl) (by kernel_rfl) (fun _ _ _ h => h) (Or.inl ⟨by rfl, ?_⟩) (by assumption) ?_
  rotate_left
  · (intro w hSw; (try dsimp only at hSw); go_simp; (try with_reducible rfl))
  try simp only [List.getElem_toArray, List.getElem_cons_succ, List.getElem_cons_zero, Act.put, List.setIfInBounds_toArray, List.set_cons_zero, List.set_cons_succ]
  refine wpAnyH_ready (rs := [2]) (by kernel_rfl) (by simp) (AllReadyH.cons rfl (fun K hK => ?_) AllReadyH.nil)
  go_simp
  refine (toFrame_any _ _ _ _ _ _ _ _ _ _ _ (hr.below H.below) hbig).mono ?_
  rintro e w10 ⟨p10, c10, rfl, o10, b10⟩
  replace X := X.below b10 X.lt
  replace H := H.make o10 b10
  clear o10 b10
  go_wp2_with fail
  refine hK.out _ _ ?_ (fun hHeld => ?_)
  · exact ⟨frame_cells (A0.out.below H.below A0.out.lt), frame_cells X, state_cells (B0.out.below H.below B0.out.lt)⟩
  clear hK K
  try simp only [List.getElem_toArray, List.getElem_cons_succ, List.getElem_cons_zero, Act.put, List.setIfInBounds_toArray, List.set_cons_zero, List.set_cons_succ]
  refine wpAnyH_ready (rs := [3]) (by kernel_rfl) (by simp) (AllReadyH.cons rfl (fun K hK => ?_) AllReadyH.nil)
  go_simp
  refine (eqFrame_yes _ _ _ _ _ _ _ _ _ _ _ _ _ (H.rd 2 rfl rfl) (H.rd 0 rfl rfl) hbig).mono ?_
  rintro e w11 ⟨rfl, b11⟩
  replace X := X.below b11 X.lt
  replace H := H.still b11
  clear b11
  go_wp2_with fail
  refine hK.out _ _ ?_ (fun hHeld => ?_)
  · exact ⟨frame_cells (A0.out.below H.below A0.out.lt), frame_cells X, state_cells (B0.out.below H.below B0.out.lt)⟩
  clear hK K
  try simp only [List.getElem_toArray, List.getElem_cons_succ, List.getElem_cons_zero, Act.put, List.setIfInBounds_toArray, List.set_cons_zero, List.set_cons_succ]
  refine wpAnyH_take (i := 4) (v := ?_) rfl (by kernel_rfl) (by kernel_rfl) (by kernel_rfl) (fun _ _ _ h => h) (Or.inl ⟨by rfl, ?_⟩) (by assumption) ?_
  rotate_left
  · (intro w hSw; (try dsimp only at hSw); go_simp; (try with_reducible rfl))
  try simp only [List.getElem_toArray, List.getElem_cons_succ, List.getElem_cons_zero, Act.put, List.setIfInBounds_toArray, List.set_cons_zero, List.set_cons_succ]
  refine wpAnyH_done (by kernel_rfl) ?_ _
  obtain ⟨x0, x1, x2, x3, x4, x5, x6, x7⟩ := frame_cells X
  go_wp2_with fail
  clear x0 x1 x2 x3 x4 x5 x6 x7
  clear X
  refine (markFrame_own _ _ _ _ _ _ _ _ _ _ _ _ _ _ rfl (H.get 2 rfl) (by omega) (by omega) (by omega)).mono ?_
  rintro e w12 ⟨rfl, o12, g12⟩
  replace H := H.mark [(.slice p10 xs.length c10, xs), (.slice p8 r0.length c8, r0)] o12 g12
  clear o12 g12
  go_wp2_with fail
  refine (eq_yes _ _ _ _ _ _ _ _ (H.rd 1 rfl rfl) (H.rd 3 rfl rfl) (by omega)).mono ?_
  rintro e w13 ⟨rfl, b13⟩
  replace H := H.still b13
  clear b13
  go_wp2_with fail
  refine (mark_own _ _ _ _ _ _ _ rfl (H.get 1 rfl) (by omega) (by omega) (by omega)).mono ?_
  rintro e w14 ⟨rfl, o14, g14⟩
  replace H := H.mark [(.slice p10 xs.length c10, xs)] o14 g14
  clear o14 g14
  go_wp2_with fail
  refine (held_yes _ _ _ _ _ (H.rd 1 rfl (marks_len _ _)) (by omega) (by omega) (by omega)).mono ?_
  rintro e w' ⟨rfl, rfl⟩
  go_upto_region 24 with fail
  replace H := H.still (Below.drew (Below.refl _ _))
  refine wp_region_held_drew (S := fun w' => (w'.cell? ⟨w.heap.size, 0, none⟩ = some (.int .i64 s0_0) ∧ w'.cell? ⟨w.heap.size, 1, none⟩ = some (.int .i64 s0_1) ∧ w'.cell? ⟨w.heap.size, 2, none⟩ = some (.int .i64 s0_2) ∧ w'.cell? ⟨w.heap.size, 3, none⟩ = some (.int .i64 s0_3) ∧ w'.cell? ⟨w.heap.size, 4, none⟩ = some (.int .i64 s0_4) ∧ w'.cell? ⟨w.heap.size, 5, none⟩ = some (.int .i64 s0_5) ∧ w'.cell? ⟨w.heap.size, 6, none⟩ = some (.int .i64 s0_6) ∧ w'.cell? ⟨w.heap.size, 7, none⟩ = some (.slice a0 xs.length cap0)) ∧ (w'.cell? ⟨w.heap.size + 1, 0, none⟩ = some (.int .i64 s2_0) ∧ w'.cell? ⟨w.heap.size + 1, 1, none⟩ = some (.int .i64 s2_1) ∧ w'.cell? ⟨w.heap.size + 1, 2, none⟩ = some (.int .i64 s2_2) ∧ w'.cell? ⟨w.heap.size + 1, 3, none⟩ = some (.int .i64 s2_3) ∧ w'.cell? ⟨w.heap.size + 1, 4, none⟩ = some (.int .i64 s2_4))) (by kernel_rfl) (⟨frame_cells (A0.out.below H.below A0.out.lt), state_cells (B0.out.below H.below B0.out.lt)⟩) (fun hHeld => ?_)
  refine wpAnyH_take (i := 0) (v := ?_) rfl (by kernel_rfl) (by kernel_rfl) (by kernel_rfl) (fun _ _ _ h => h) (Or.inl ⟨by rfl, ?_⟩) (by assumption) ?_
  rotate_left
  · (intro w hSw; (try dsimp only at hSw); go_simp; (try with_reducible rfl))
  try simp only [List.getElem_toArray, List.getElem_cons_succ, List.getElem_cons_zero, Act.put, List.setIfInBounds_toArray, List.set_cons_zero, List.set_cons_succ]
  refine wpAnyH_take (i := 2) (v := ?_) rfl (by kernel_rfl) (by kernel_rfl) (by kernel_rfl) (fun _ _ _ h => h) (Or.inl ⟨by rfl, ?_⟩) (by assumption) ?_
  rotate_left
  · (intro w hSw; (try dsimp only at hSw); go_simp; (try with_reducible rfl))
  try simp only [List.getElem_toArray, List.getElem_cons_succ, List.getElem_cons_zero, Act.put, List.setIfInBounds_toArray, List.set_cons_zero, List.set_cons_succ]
  refine wpAnyH_take (i := 3) (v := ?_) rfl (by kernel_rfl) (by kernel_rfl) (by kernel_rfl) (fun _ _ _ h => h) (Or.inl ⟨by rfl, ?_⟩) (by assumption) ?_
  rotate_left
  · (intro w hSw; (try dsimp only at hSw); go_simp; (try with_reducible rfl))
  try simp only [List.getElem_toArray, List.getElem_cons_succ, List.getElem_cons_zero, Act.put, List.setIfInBounds_toArray, List.set_cons_zero, List.set_cons_succ]
  refine wpAnyH_ready (rs := [1]) (by kernel_rfl) (by simp) (AllReadyH.cons rfl (fun K hK => ?_) AllReadyH.nil)
  go_simp
  refine (toFrame_any _ _ _ _ _ _ _ _ _ _ _ (hr.below H.below) hbig).mono ?_
  rintro e w15 ⟨p15, c15, rfl, o15, b15⟩
  replace H := H.make o15 b15
  clear o15 b15
  go_wp2_with fail
  refine hK.out _ _ ?_ (fun hHeld => ?_)
  · exact ⟨frame_cells (A0.out.below H.below A0.out.lt), state_cells (B0.out.below H.below B0.out.lt)⟩
  clear hK K
  try simp only [List.getElem_toArray, List.getElem_cons_succ, List.getElem_cons_zero, Act.put, List.setIfInBounds_toArray, List.set_cons_zero, List.set_cons_succ]
  refine wpAnyH_ready (rs := [4]) (by kernel_rfl) (by simp) (AllReadyH.cons rfl (fun K hK => ?_) AllReadyH.nil)
  go_simp
  refine (toState_any _ _ _ _ _ _).mono ?_
  rintro e w16 ⟨rfl, b16⟩
  replace H := H.still b16
  clear b16
  go_wp2_with fail
  refine hK.out _ _ ?_ (fun hHeld => ?_)
  · exact ⟨frame_cells (A0.out.below H.below A0.out.lt), state_cells (B0.out.below H.below B0.out.lt)⟩
  clear hK K
  try simp only [List.getElem_toArray, List.getElem_cons_succ, List.getElem_cons_zero, Act.put, List.setIfInBounds_toArray, List.set_cons_zero, List.set_cons_succ]
  refine wpAnyH_ready (rs := [5]) (by kernel_rfl) (by simp) (AllReadyH.cons rfl (fun K hK => ?_) AllReadyH.nil)
  go_simp
  refine (sealFrame_any _ _ _ _ _ _ _ _ _ _ _ _ _ _ _ _ _ (H.rd 0 rfl rfl) hbig).mono ?_
  rintro e w17 m17
  rw [HF.out] at m17
  change Makes2 2 _ r0 r1 _ _ at m17
  obtain ⟨p17, c17, rfl, o17, -, b17⟩ := m17.get
  clear m17
  replace H := H.make o17 b17
  clear o17 b17
  go_wp2_with fail
  refine hK.out _ _ ?_ (fun hHeld => ?_)
  · exact ⟨frame_cells (A0.out.below H.below A0.out.lt), state_cells (B0.out.below H.below B0.out.lt)⟩
  clear hK K
  try simp only [List.getElem_toArray, List.getElem_cons_succ, List.getElem_cons_zero, Act.put, List.setIfInBounds_toArray, List.set_cons_zero, List.set_cons_succ]
  refine wpAnyH_take (i := 6) (v := ?_) rfl (by kernel_rfl) (by kernel_rfl) (by kernel_rfl) (fun _ _ _ h => h) (Or.inl ⟨by rfl, ?_⟩) (by assumption) ?_
  rotate_left
  · (intro w hSw; (try dsimp only at hSw); go_simp; (try with_reducible rfl))
  try simp only [List.getElem_toArray, List.getElem_cons_succ, List.getElem_cons_zero, Act.put, List.setIfInBounds_toArray, List.set_cons_zero, List.set_cons_succ]
  refine wpAnyH_take (i := 7) (v := ?_) rfl (by kernel_rfl) (by kernel_rfl) (by kernel_rfl) (fun _ _ _ h => h) (Or.inl ⟨by rfl, ?_⟩) (by assumption) ?_
  rotate_left
  · (intro w hSw; (try dsimp only at hSw); go_simp; (try with_reducible rfl))
  try simp only [List.getElem_toArray, List.getElem_cons_succ, List.getElem_cons_zero, Act.put, List.setIfInBounds_toArray, List.set_cons_zero, List.set_cons_succ]
  refine wpAnyH_take (i := 8) (v := ?_) rfl (by kernel_rfl) (by kernel_rfl) (by kernel_rfl) (fun _ _ _ h => h) (Or.inl ⟨by rfl, ?_⟩) (by assumption) ?_
  rotate_left
  · (intro w hSw; (try dsimp only at hSw); go_simp; (try with_reducible rfl))
  try simp only [List.getElem_toArray, List.getElem_cons_succ, List.getElem_cons_zero, Act.put, List.setIfInBounds_toArray, List.set_cons_zero, List.set_cons_succ]
  refine wpAnyH_take (i := 9) (v := ?_) rfl (by kernel_rfl) (by kernel_rfl) (by kernel_rfl) (fun _ _ _ h => h) (Or.inl ⟨by rfl, ?_⟩) (by assumption) ?_
  rotate_left
  · (intro w hSw; (try dsimp only at hSw); go_simp; (try with_reducible rfl))
  try simp only [List.getElem_toArray, List.getElem_cons_succ, List.getElem_cons_zero, Act.put, List.setIfInBounds_toArray, List.set_cons_zero, List.set_cons_succ]
  refine wpAnyH_take (i := 10) (v := ?_) rfl (by kernel_rfl) (by kernel_rfl) (by kernel_rfl) (fun _ _ _ h => h) (Or.inl ⟨by rfl, ?_⟩) (by assumption) ?_
  rotate_left
  · (intro w hSw; (try dsimp only at hSw); go_simp; (try with_reducible rfl))
  try simp only [List.getElem_toArray, List.getElem_cons_succ, List.getElem_cons_zero, Act.put, List.setIfInBounds_toArray, List.set_cons_zero, List.set_cons_succ]
  refine wpAnyH_done (by kernel_rfl) ?_ _
  go_wp2_with fail
  refine (eq_yes _ _ _ _ _ _ _ _ (H.rd 0 rfl rfl) (H.rd 5 rfl rfl) (by omega)).mono ?_
  rintro e w18 ⟨rfl, b18⟩
  replace H := H.still b18
  clear b18
  go_wp2_with fail
  refine (held_yes _ _ _ _ _ (H.rd 3 rfl (marks_len _ _)) (by omega) (by omega) (by omega)).mono ?_
  rintro e w' ⟨rfl, rfl⟩
  go_wp2_with fail
  go_ret
  exact ⟨rfl, HW0.out.trans (H.below.mono HW0.out.size)⟩
end Go.Proofs.Ytbdfnkhmnglpbaa.fnExactSealFrame
