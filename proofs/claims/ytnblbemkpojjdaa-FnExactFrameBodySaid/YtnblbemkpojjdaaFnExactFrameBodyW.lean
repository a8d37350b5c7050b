/-
  The walk of laws.FnExactFrameBody: at every input it returns true and writes nothing that was there.
-/
import Derived.Test.YtnblbemkpojjdaaRows
import Derived.Test.YtnblbemkpojjdaaGA
import Derived.Test.YtnblbemkpojjdaaBase
import Derived.Test.YtnblbemkpojjdaaEight
import Derived.WalkKit
import Derived.ProofKit
import Derived.OpenShut
import Derived.ShutString
import Derived.ChangeOld
import Derived.Below
import Derived.Lib.SmallJoins
namespace Go.Proofs.Ytnblbemkpojjdaa.fnExactFrameBody
open Go.ChangeShapes Go.WideShapes Go.ChangeAt Go.RowKit Go.Joins
open Go.ChangeMaps (open_string shut_string)
set_option linter.unusedVariables false
set_option maxHeartbeats 1000000 in set_option maxRecDepth 100000 in
theorem walk (s0_0 : Int) (s0_1 : Int) (s0_2 : Int) (s0_3 : Int) (s0_4 : Int) (s0_5 : Int) (s0_6 : Int) (a0 : Option Addr) (len0 cap0 : Nat) (z0 : List Int) (w : World) (w0 : IntRow w a0 len0 cap0 z0) (w0_0 : (Lit.int .i64 s0_0).wf = true) (w0_1 : (Lit.int .i64 s0_1).wf = true) (w0_2 : (Lit.int .i64 s0_2).wf = true) (w0_3 : (Lit.int .i64 s0_3).wf = true) (w0_4 : (Lit.int .i64 s0_4).wf = true) (w0_5 : (Lit.int .i64 s0_5).wf = true) (w0_6 : (Lit.int .i64 s0_6).wf = true) :
    Calls Try.prog 6 #[.agg #[.int .i64 s0_0, .int .i64 s0_1, .int .i64 s0_2, .int .i64 s0_3, .int .i64 s0_4, .int .i64 s0_5, .int .i64 s0_6, .slice a0 len0 cap0]] w fun e w' => e = .returned (.bool true) ∧ Below w.heap.size w w' := by
  have hr := rd_of_row w0
  have hsm := IntRow.small w0
  clear w0
  generalize List.take len0 z0 = xs at hr
  obtain rfl : xs.length = len0 := hr.len
  clear w0_0 w0_1 w0_2 w0_3 w0_4 w0_5 w0_6
  have hB0 : Below w.heap.size w (w.alloc (.cells #[.int .i64 s0_0, .int .i64 s0_1, .int .i64 s0_2, .int .i64 s0_3, .int .i64 s0_4, .int .i64 s0_5, .int .i64 s0_6, .slice a0 xs.length cap0] 43)) := (Below.refl _ _).alloc (Nat.le_refl _) _
  have HB0 := Lib.hid hB0; clear hB0
  by_cases hbig : xs.length ≤ 1048576
  rotate_left
  · go_enter Try.func6, Try.ntmps6
    go_wp2_with fail
    refine (szFrame_big _ _ _ _ _ _ _ _ _ _ _ (by omega) hsm).mono ?_
    rintro e w1 ⟨rfl, b1⟩
    go_wp2
    go_ret
    exact ⟨rfl, below_box b1⟩
  replace hr := hr.below HB0.out
  have H : Held 2 (w.alloc (.cells #[.int .i64 s0_0, .int .i64 s0_1, .int .i64 s0_2, .int .i64 s0_3, .int .i64 s0_4, .int .i64 s0_5, .int .i64 s0_6, .slice a0 xs.length cap0] 43)) (w.alloc (.cells #[.int .i64 s0_0, .int .i64 s0_1, .int .i64 s0_2, .int .i64 s0_3, .int .i64 s0_4, .int .i64 s0_5, .int .i64 s0_6, .slice a0 xs.length cap0] 43)) [] := Held.start
  have hneg : ¬ (1048576 - (xs.length : Int) < 0) := by omega
  go_enter Try.func6, Try.ntmps6
  go_wp2_with fail
  refine (szFrame_ok _ _ _ _ _ _ _ _ _ _ _ hbig).mono ?_
  rintro e w1 ⟨rfl, b1⟩
  replace H := H.still b1
  clear b1
  obtain ⟨r0, r1, hF⟩ : ∃ r0 r1, frameBody ⟨s0_0, s0_1, s0_2, s0_3, s0_4, s0_5, s0_6, xs⟩ = (r0, r1) := ⟨_, _, rfl⟩
  have hlen : r0.length ≤ 1048576 := by have h := frameBody_len ⟨s0_0, s0_1, s0_2, s0_3, s0_4, s0_5, s0_6, xs⟩; rw [hF] at h; exact Nat.le_trans h (by omega)
  have HF := Lib.hid hF; clear hF
  have a0 := (frame_new H.below).c0
  have a1 := (frame_new H.below).c1
  have a2 := (frame_new H.below).c2
  have a3 := (frame_new H.below).c3
  have a4 := (frame_new H.below).c4
  have a5 := (frame_new H.below).c5
  have a6 := (frame_new H.below).c6
  have a7 := (frame_new H.below).c7
  go_wp2_with fail
  clear a0 a1 a2 a3 a4 a5 a6 a7
  refine (toFrame_any _ _ _ _ _ _ _ _ _ _ _ (hr.below H.below) hbig).mono ?_
  rintro e w2 ⟨p2, c2, rfl, o2, b2⟩
  replace H := H.make o2 b2
  clear o2 b2
  go_wp2_with fail
  refine (sFrameBody_any _ _ _ _ _ _ _ _ _ _ _ (H.rd 0 rfl rfl) hbig).mono ?_
  rintro e w3 m3
  rw [HF.out] at m3
  change Makes2 2 _ r0 r1 _ _ at m3
  obtain ⟨p3, c3, rfl, o3, -, b3⟩ := m3.get
  clear m3
  replace H := H.make o3 b3
  clear o3 b3
  have a0 := (frame_new H.below).c0
  have a1 := (frame_new H.below).c1
  have a2 := (frame_new H.below).c2
  have a3 := (frame_new H.below).c3
  have a4 := (frame_new H.below).c4
  have a5 := (frame_new H.below).c5
  have a6 := (frame_new H.below).c6
  have a7 := (frame_new H.below).c7
  go_wp2_with fail
  clear a0 a1 a2 a3 a4 a5 a6 a7
  refine (toFrame_any _ _ _ _ _ _ _ _ _ _ _ (hr.below H.below) hbig).mono ?_
  rintro e w4 ⟨p4, c4, rfl, o4, b4⟩
  replace H := H.make o4 b4
  clear o4 b4
  go_wp2_with fail
  have hal : Below w4.heap.size w4 (w4.alloc (.cells #[.int .i64 s0_0, .int .i64 s0_1, .int .i64 s0_2, .int .i64 s0_3, .int .i64 s0_4, .int .i64 s0_5, .int .i64 s0_6, .slice p4 xs.length c4] 28)) := (Below.refl _ _).alloc (Nat.le_refl _) _
  have X := FrameAt.new (T := 28) (a := s0_0) (q := s0_1) (t := s0_2) (m := s0_3) (r := s0_4) (s := s0_5) (k := s0_6) (v := .slice p4 xs.length c4) w4
  replace H := H.still hal
  clear hal
  obtain ⟨bX, hbX⟩ : ∃ b, b = w4.heap.size := ⟨_, rfl⟩
  rw [← hbX] at X ⊢
  clear hbX
  generalize w4.alloc (.cells #[.int .i64 s0_0, .int .i64 s0_1, .int .i64 s0_2, .int .i64 s0_3, .int .i64 s0_4, .int .i64 s0_5, .int .i64 s0_6, .slice p4 xs.length c4] 28) = w5 at X H ⊢
  refine (frameBody_any _ _ _ _ _ _ _ _ _ _ _ (H.rd 0 rfl rfl) hbig).mono ?_
  rintro e w6 m6
  rw [HF.out] at m6
  change Makes2 2 _ r0 r1 _ _ at m6
  obtain ⟨p6, c6, rfl, o6, -, b6⟩ := m6.get
  clear m6
  replace X := X.below b6 X.lt
  replace H := H.make o6 b6
  clear o6 b6
  go_wp2_with fail
  refine (eq_yes _ _ _ _ _ _ _ _ (H.rd 0 rfl rfl) (H.rd 2 rfl rfl) (by omega)).mono ?_
  rintro e w7 ⟨rfl, b7⟩
  replace X := X.below b7 X.lt
  replace H := H.still b7
  clear b7
  go_upto_region 10 with fail
  have H1 := Lib.hid (H.still (Below.drew (Below.refl _ _))); have X1 := Lib.hid (X.below (Below.drew (Below.refl _ _)) X.lt); clear H X
  go_region_held3 (fun w' => w'.cell? ⟨w.heap.size, 0, none⟩ = some (.int .i64 s0_0) ∧ w'.cell? ⟨w.heap.size, 1, none⟩ = some (.int .i64 s0_1) ∧ w'.cell? ⟨w.heap.size, 2, none⟩ = some (.int .i64 s0_2) ∧ w'.cell? ⟨w.heap.size, 3, none⟩ = some (.int .i64 s0_3) ∧ w'.cell? ⟨w.heap.size, 4, none⟩ = some (.int .i64 s0_4) ∧ w'.cell? ⟨w.heap.size, 5, none⟩ = some (.int .i64 s0_5) ∧ w'.cell? ⟨w.heap.size, 6, none⟩ = some (.int .i64 s0_6) ∧ w'.cell? ⟨w.heap.size, 7, none⟩ = some (.slice a0 xs.length cap0) ∧ w'.cell? ⟨bX, 0, none⟩ = some (.int .i64 s0_0) ∧ w'.cell? ⟨bX, 1, none⟩ = some (.int .i64 s0_1) ∧ w'.cell? ⟨bX, 2, none⟩ = some (.int .i64 s0_2) ∧ w'.cell? ⟨bX, 3, none⟩ = some (.int .i64 s0_3) ∧ w'.cell? ⟨bX, 4, none⟩ = some (.int .i64 s0_4) ∧ w'.cell? ⟨bX, 5, none⟩ = some (.int .i64 s0_5) ∧ w'.cell? ⟨bX, 6, none⟩ = some (.int .i64 s0_6) ∧ w'.cell? ⟨bX, 7, none⟩ = some (.slice p4 xs.length c4))
    (first | with_reducible exact frame_cells2 (frame_new H1.out.below) X1.out | with_reducible exact frame_cells2 (frame_new H2.out.below) X2.out | with_reducible exact frame_cells2 (frame_new H3.out.below) X3.out)
    (first
      | (go_at_call 26; have RR := hr.below H1.out.below; (with_reducible refine (toFrame_any _ _ _ _ _ _ _ _ _ _ _ RR hbig).mono ?_); clear RR; rintro e w8 ⟨p8, c8, rfl, o8, b8⟩; have X2 := Lib.hid (X1.out.below b8 X1.out.lt); have H2 := Lib.hid (H1.out.make o8 b8); clear o8 b8)
      | (go_at_call 27; have RX := H2.out.rd 2 rfl rfl; have RY := H2.out.rd 0 rfl rfl; (with_reducible refine (eqFrame_yes _ _ _ _ _ _ _ _ _ _ _ _ _ RX RY hbig).mono ?_); clear RX RY; rintro e w9 ⟨rfl, b9⟩; have X3 := Lib.hid (X2.out.below b9 X2.out.lt); have H3 := Lib.hid (H2.out.still b9); clear b9))
  have H := H3.out
  have X := X3.out
  clear H1 H2 H3 X1 X2 X3
  have x0 := X.c0
  have x1 := X.c1
  have x2 := X.c2
  have x3 := X.c3
  have x4 := X.c4
  have x5 := X.c5
  have x6 := X.c6
  have x7 := X.c7
  go_wp2_with fail
  clear x0 x1 x2 x3 x4 x5 x6 x7
  clear X
  refine (markFrame_own _ _ _ _ _ _ _ _ _ _ _ _ _ _ rfl (H.get 2 rfl) (by omega) (by omega) (by omega)).mono ?_
  rintro e w10 ⟨rfl, o10, g10⟩
  replace H := H.mark [(.slice p8 xs.length c8, xs), (.slice p6 r0.length c6, r0)] o10 g10
  clear o10 g10
  go_wp2_with fail
  refine (eq_yes _ _ _ _ _ _ _ _ (H.rd 1 rfl rfl) (H.rd 3 rfl rfl) (by omega)).mono ?_
  rintro e w11 ⟨rfl, b11⟩
  replace H := H.still b11
  clear b11
  go_wp2_with fail
  refine (mark_own _ _ _ _ _ _ _ rfl (H.get 1 rfl) (by omega) (by omega) (by omega)).mono ?_
  rintro e w12 ⟨rfl, o12, g12⟩
  replace H := H.mark [(.slice p8 xs.length c8, xs)] o12 g12
  clear o12 g12
  go_wp2_with fail
  refine (held_yes _ _ _ _ _ (H.rd 1 rfl (marks_len _ _)) (by omega) (by omega) (by omega)).mono ?_
  rintro e w' ⟨rfl, rfl⟩
  have a0 := (frame_new H.below).c0
  have a1 := (frame_new H.below).c1
  have a2 := (frame_new H.below).c2
  have a3 := (frame_new H.below).c3
  have a4 := (frame_new H.below).c4
  have a5 := (frame_new H.below).c5
  have a6 := (frame_new H.below).c6
  have a7 := (frame_new H.below).c7
  go_wp2_with fail
  clear a0 a1 a2 a3 a4 a5 a6 a7
  refine (toFrame_any _ _ _ _ _ _ _ _ _ _ _ (hr.below H.below) hbig).mono ?_
  rintro e w13 ⟨p13, c13, rfl, o13, b13⟩
  replace H := H.make o13 b13
  clear o13 b13
  go_wp2_with fail
  refine (frameBody_any _ _ _ _ _ _ _ _ _ _ _ (H.rd 0 rfl rfl) hbig).mono ?_
  rintro e w14 m14
  rw [HF.out] at m14
  change Makes2 2 _ r0 r1 _ _ at m14
  obtain ⟨p14, c14, rfl, o14, -, b14⟩ := m14.get
  clear m14
  replace H := H.make o14 b14
  clear o14 b14
  go_wp2_with fail
  refine (eq_yes _ _ _ _ _ _ _ _ (H.rd 0 rfl rfl) (H.rd 5 rfl rfl) (by omega)).mono ?_
  rintro e w15 ⟨rfl, b15⟩
  replace H := H.still b15
  clear b15
  go_wp2_with fail
  refine (held_yes _ _ _ _ _ (H.rd 3 rfl (marks_len _ _)) (by omega) (by omega) (by omega)).mono ?_
  rintro e w' ⟨rfl, rfl⟩
  go_wp2_with fail
  go_ret
  exact ⟨rfl, below_two HB0.out H.below⟩
end Go.Proofs.Ytnblbemkpojjdaa.fnExactFrameBody
