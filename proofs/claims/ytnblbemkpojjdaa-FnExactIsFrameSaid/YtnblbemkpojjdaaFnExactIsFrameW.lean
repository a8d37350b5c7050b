/-
  The walk of laws.FnExactIsFrame: at every input it returns true and writes nothing that was there.
-/
import Derived.Test.YtnblbemkpojjdaaRows
import Derived.Test.YtnblbemkpojjdaaG8
import Derived.Test.YtnblbemkpojjdaaBase
import Derived.Test.YtnblbemkpojjdaaEight
import Derived.WalkKit
import Derived.ProofKit
import Derived.OpenShut
import Derived.ShutString
import Derived.ChangeOld
import Derived.Below
import Derived.Lib.SmallJoins
namespace Go.Proofs.Ytnblbemkpojjdaa.fnExactIsFrame
open Go.ChangeShapes Go.WideShapes Go.ChangeAt Go.RowKit Go.Joins
open Go.ChangeMaps (open_string shut_string)
set_option linter.unusedVariables false
set_option maxHeartbeats 1000000 in set_option maxRecDepth 100000 in
theorem walk (s0_0 : Int) (s0_1 : Int) (s0_2 : Int) (s0_3 : Int) (s0_4 : Int) (s0_5 : Int) (s0_6 : Int) (a0 : Option Addr) (len0 cap0 : Nat) (z0 : List Int) (w : World) (w0 : IntRow w a0 len0 cap0 z0) (w0_0 : (Lit.int .i64 s0_0).wf = true) (w0_1 : (Lit.int .i64 s0_1).wf = true) (w0_2 : (Lit.int .i64 s0_2).wf = true) (w0_3 : (Lit.int .i64 s0_3).wf = true) (w0_4 : (Lit.int .i64 s0_4).wf = true) (w0_5 : (Lit.int .i64 s0_5).wf = true) (w0_6 : (Lit.int .i64 s0_6).wf = true) :
    Calls Try.prog 5 #[.agg #[.int .i64 s0_0, .int .i64 s0_1, .int .i64 s0_2, .int .i64 s0_3, .int .i64 s0_4, .int .i64 s0_5, .int .i64 s0_6, .slice a0 len0 cap0]] w fun e w' => e = .returned (.bool true) ∧ Below w.heap.size w w' := by
  have hr := rd_of_row w0
  have hsm := IntRow.small w0
  clear w0
  generalize List.take len0 z0 = xs at hr
  obtain rfl : xs.length = len0 := hr.len
  clear w0_0 w0_1 w0_2 w0_3 w0_4 w0_5 w0_6
  have hB0 : Below w.heap.size w (w.alloc (.cells #[.int .i64 s0_0, .int .i64 s0_1, .int .i64 s0_2, .int .i64 s0_3, .int .i64 s0_4, .int .i64 s0_5, .int .i64 s0_6, .slice a0 xs.length cap0] 43)) := (Below.refl _ _).alloc (Nat.le_refl _) _
  have HB0 := Lib.hid hB0; clear hB0
  by_cases hbig : xs.length ≤ 1048576
  rotate_left
  · go_enter Try.func5, Try.ntmps5
    go_wp2_with fail
    refine (szFrame_big _ _ _ _ _ _ _ _ _ _ _ (by omega) hsm).mono ?_
    rintro e w1 ⟨rfl, b1⟩
    go_wp2
    go_ret
    exact ⟨rfl, below_box b1⟩
  replace hr := hr.below HB0.out
  have H : Held 2 (w.alloc (.cells #[.int .i64 s0_0, .int .i64 s0_1, .int .i64 s0_2, .int .i64 s0_3, .int .i64 s0_4, .int .i64 s0_5, .int .i64 s0_6, .slice a0 xs.length cap0] 43)) (w.alloc (.cells #[.int .i64 s0_0, .int .i64 s0_1, .int .i64 s0_2, .int .i64 s0_3, .int .i64 s0_4, .int .i64 s0_5, .int .i64 s0_6, .slice a0 xs.length cap0] 43)) [] := Held.start
  have hneg : ¬ (1048576 - (xs.length : Int) < 0) := by omega
  go_enter Try.func5, Try.ntmps5
  go_wp2_with fail
  refine (szFrame_ok _ _ _ _ _ _ _ _ _ _ _ hbig).mono ?_
  rintro e w1 ⟨rfl, b1⟩
  replace H := H.still b1
  clear b1
  obtain ⟨r0, hF⟩ : ∃ r0, isFrame ⟨s0_0, s0_1, s0_2, s0_3, s0_4, s0_5, s0_6, xs⟩ = r0 := ⟨_, rfl⟩
  have HF := Lib.hid hF; clear hF
  have a0 := (frame_new H.below).c0
  have a1 := (frame_new H.below).c1
  have a2 := (frame_new H.below).c2
  have a3 := (frame_new H.below).c3
  have a4 := (frame_new H.below).c4
  have a5 := (frame_new H.below).c5
  have a6 := (frame_new H.below).c6
  have a7 := (frame_new H.below).c7
  go_wp2_with fail
  clear a0 a1 a2 a3 a4 a5 a6 a7
  refine (toFrame_any _ _ _ _ _ _ _ _ _ _ _ (hr.below H.below) hbig).mono ?_
  rintro e w2 ⟨p2, c2, rfl, o2, b2⟩
  replace H := H.make o2 b2
  clear o2 b2
  go_wp2_with fail
  refine (sIsFrame_any _ _ _ _ _ _ _ _ _ _ _ (H.rd 0 rfl rfl) hbig).mono ?_
  rintro e w3 ⟨rfl, b3⟩
  rw [HF.out]
  replace H := H.still b3
  clear b3
  have a0 := (frame_new H.below).c0
  have a1 := (frame_new H.below).c1
  have a2 := (frame_new H.below).c2
  have a3 := (frame_new H.below).c3
  have a4 := (frame_new H.below).c4
  have a5 := (frame_new H.below).c5
  have a6 := (frame_new H.below).c6
  have a7 := (frame_new H.below).c7
  go_wp2_with fail
  clear a0 a1 a2 a3 a4 a5 a6 a7
  refine (toFrame_any _ _ _ _ _ _ _ _ _ _ _ (hr.below H.below) hbig).mono ?_
  rintro e w4 ⟨p4, c4, rfl, o4, b4⟩
  replace H := H.make o4 b4
  clear o4 b4
  go_wp2_with fail
  have hal : Below w4.heap.size w4 (w4.alloc (.cells #[.int .i64 s0_0, .int .i64 s0_1, .int .i64 s0_2, .int .i64 s0_3, .int .i64 s0_4, .int .i64 s0_5, .int .i64 s0_6, .slice p4 xs.length c4] 28)) := (Below.refl _ _).alloc (Nat.le_refl _) _
  have X := FrameAt.new (T := 28) (a := s0_0) (q := s0_1) (t := s0_2) (m := s0_3) (r := s0_4) (s := s0_5) (k := s0_6) (v := .slice p4 xs.length c4) w4
  replace H := H.still hal
  clear hal
  obtain ⟨bX, hbX⟩ : ∃ b, b = w4.heap.size := ⟨_, rfl⟩
  rw [← hbX] at X ⊢
  clear hbX
  generalize w4.alloc (.cells #[.int .i64 s0_0, .int .i64 s0_1, .int .i64 s0_2, .int .i64 s0_3, .int .i64 s0_4, .int .i64 s0_5, .int .i64 s0_6, .slice p4 xs.length c4] 28) = w5 at X H ⊢
  refine (isFrame_any _ _ _ _ _ _ _ _ _ _ _ (H.rd 0 rfl rfl) hbig).mono ?_
  rintro e w6 ⟨rfl, b6⟩
  rw [HF.out]
  replace X := X.below b6 X.lt
  replace H := H.still b6
  clear b6
  go_upto_region 10 with fail
  have H1 := Lib.hid (H.still (Below.drew (Below.refl _ _))); have X1 := Lib.hid (X.below (Below.drew (Below.refl _ _)) X.lt); clear H X
  go_region_held3 (fun w' => w'.cell? ⟨w.heap.size, 0, none⟩ = some (.int .i64 s0_0) ∧ w'.cell? ⟨w.heap.size, 1, none⟩ = some (.int .i64 s0_1) ∧ w'.cell? ⟨w.heap.size, 2, none⟩ = some (.int .i64 s0_2) ∧ w'.cell? ⟨w.heap.size, 3, none⟩ = some (.int .i64 s0_3) ∧ w'.cell? ⟨w.heap.size, 4, none⟩ = some (.int .i64 s0_4) ∧ w'.cell? ⟨w.heap.size, 5, none⟩ = some (.int .i64 s0_5) ∧ w'.cell? ⟨w.heap.size, 6, none⟩ = some (.int .i64 s0_6) ∧ w'.cell? ⟨w.heap.size, 7, none⟩ = some (.slice a0 xs.length cap0) ∧ w'.cell? ⟨bX, 0, none⟩ = some (.int .i64 s0_0) ∧ w'.cell? ⟨bX, 1, none⟩ = some (.int .i64 s0_1) ∧ w'.cell? ⟨bX, 2, none⟩ = some (.int .i64 s0_2) ∧ w'.cell? ⟨bX, 3, none⟩ = some (.int .i64 s0_3) ∧ w'.cell? ⟨bX, 4, none⟩ = some (.int .i64 s0_4) ∧ w'.cell? ⟨bX, 5, none⟩ = some (.int .i64 s0_5) ∧ w'.cell? ⟨bX, 6, none⟩ = some (.int .i64 s0_6) ∧ w'.cell? ⟨bX, 7, none⟩ = some (.slice p4 xs.length c4))
    (first | with_reducible exact frame_cells2 (frame_new H1.out.below) X1.out | with_reducible exact frame_cells2 (frame_new H2.out.below) X2.out | with_reducible exact frame_cells2 (frame_new H3.out.below) X3.out)
    (first
      | (go_at_call 26; have RR := hr.below H1.out.below; (with_reducible refine (toFrame_any _ _ _ _ _ _ _ _ _ _ _ RR hbig).mono ?_); clear RR; rintro e w7 ⟨p7, c7, rfl, o7, b7⟩; have X2 := Lib.hid (X1.out.below b7 X1.out.lt); have H2 := Lib.hid (H1.out.make o7 b7); clear o7 b7)
      | (go_at_call 27; have RX := H2.out.rd 1 rfl rfl; have RY := H2.out.rd 0 rfl rfl; (with_reducible refine (eqFrame_yes _ _ _ _ _ _ _ _ _ _ _ _ _ RX RY hbig).mono ?_); clear RX RY; rintro e w8 ⟨rfl, b8⟩; have X3 := Lib.hid (X2.out.below b8 X2.out.lt); have H3 := Lib.hid (H2.out.still b8); clear b8))
  have H := H3.out
  have X := X3.out
  clear H1 H2 H3 X1 X2 X3
  go_wp2_with fail
  go_ret
  exact ⟨rfl, below_two HB0.out H.below⟩
end Go.Proofs.Ytnblbemkpojjdaa.fnExactIsFrame
