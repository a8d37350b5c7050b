/-
  The walk of laws.FnFrames: at every input it returns true and writes nothing that was there.
-/
import Derived.Test.YtnblbemkpojjdaaRows
import Derived.Test.YtnblbemkpojjdaaGK
import Derived.Test.YtnblbemkpojjdaaBase
import Derived.WalkKit
import Derived.ProofKit
import Derived.OpenShut
import Derived.ShutString
import Derived.ChangeOld
import Derived.Below
namespace Go.Proofs.Ytnblbemkpojjdaa.fnFrames
open Go.ChangeShapes Go.WideShapes Go.ChangeAt Go.RowKit
open Go.ChangeMaps (open_string shut_string)
set_option linter.unusedVariables false


/-- WHAT THE WALK IS TOLD OF A SLICE OF INTEGERS THAT CAME IN: it is nil; or it leads to a row of 'cap' cells, the numbers 'zs' (the first 'len' are its elements, the rest its spare room), each fitting its kind. -/
def IsRow (k : IntKind) (w : World) (a : Option Addr) (len cap : Nat) (zs : List Int) : Prop :=
  (a = none ∧ len = 0 ∧ cap = 0 ∧ zs = []) ∨
  ∃ x, a = some x ∧ len ≤ cap ∧ cap ≤ maxLen ∧ zs.length = cap ∧ (∀ i, i < zs.length → w.cell? (x.add i) = some (.int k (zs.getD i 0))) ∧ ∀ n ∈ zs, (Lit.int k n).wf = true

/-! ### STEP 1: THE WALK: the Go text returns true, AND WRITES NOTHING THAT WAS THERE: 'Below w.heap.size w w'' (Derived/Below.lean: '.refl', '.alloc', '.drew', '.setCell' at a new block, '.trans'). Open each 'IsRow' by 'rcases' AHEAD of 'go_enter'; part every test ahead of the walk. -/
set_option maxHeartbeats 2000000 in set_option maxRecDepth 100000 in
theorem walk (a0 : Option Addr) (len0 cap0 : Nat) (z0 : List Int) (w : World) (w0 : IsRow .u8 w a0 len0 cap0 z0) :
    Calls Try.prog 3 #[.slice a0 len0 cap0] w fun e w' => e = .returned (.bool true) ∧ Below w.heap.size w w' := by
  have hr := rdB_of_row w0
  clear w0
  generalize List.take len0 z0 = cs at hr
  have HR := Lib.hid hr; clear hr
  by_cases hbig : len0 ≤ 4096
  rotate_left
  · go_enter Try.func3, Try.ntmps3
    go_wp2_with fail
    refine (big_yes _ _ _ _ hbig).mono ?_
    rintro e w' ⟨rfl, rfl⟩
    go_wp2
    go_ret
    exact ⟨rfl, Below.refl _ _⟩
  go_enter Try.func3, Try.ntmps3
  go_wp2_with fail
  refine (big_no _ _ _ _ hbig).mono ?_
  rintro e w' ⟨rfl, rfl⟩
  go_wp2_with fail
  refine (drawFrameBody_any _ _ _ cs _ HR.out (by omega)).mono ?_
  rintro e w1 ⟨a, q, t, m, r, s, k, ao1, cp1, d, rfl, o1, hdl, b1⟩
  have H : Held 2 w w1 _ := Held.start.make o1 b1
  clear b1 o1
  obtain ⟨r0, r1, hF⟩ : ∃ r0 r1, frameBody ⟨a, q, t, m, r, s, k, d⟩ = (r0, r1) := ⟨_, _, rfl⟩
  have hrl : r0.length ≤ 42 := by have h := frameBody_len ⟨a, q, t, m, r, s, k, d⟩; rw [hF] at h; exact h
  obtain ⟨ib, hib⟩ : ∃ ib, isFrame ⟨a, q, t, m, r, s, k, d⟩ = ib := ⟨_, rfl⟩
  have hcode := body_code hF
  have HF := Lib.hid hF; clear hF
  have HI := Lib.hid hib; clear hib
  have hdl2 : d.length ≤ 1048576 := by omega
  go_wp2_with fail
  have hal : Below w1.heap.size w1 (w1.alloc (.cells #[.int .i64 a, .int .i64 q, .int .i64 t, .int .i64 m, .int .i64 r, .int .i64 s, .int .i64 k, .slice ao1 d.length cp1] 28)) := (Below.refl _ _).alloc (Nat.le_refl _) _
  have X := FrameAt.new (T := 28) (a := a) (q := q) (t := t) (m := m) (r := r) (s := s) (k := k) (v := .slice ao1 d.length cp1) w1
  replace H := H.still hal
  clear hal
  obtain ⟨bX, hbX⟩ : ∃ b, b = w1.heap.size := ⟨_, rfl⟩
  rw [← hbX] at X ⊢
  clear hbX
  generalize w1.alloc (.cells #[.int .i64 a, .int .i64 q, .int .i64 t, .int .i64 m, .int .i64 r, .int .i64 s, .int .i64 k, .slice ao1 d.length cp1] 28) = w2 at X H ⊢
  refine (frameBody_any _ _ _ _ _ _ _ _ _ _ _ (H.rd 0 rfl rfl) hdl2).mono ?_
  rintro e w3 m3
  rw [HF.out] at m3
  change Makes2 2 _ r0 r1 _ _ at m3
  obtain ⟨p3, c3, rfl, o3, -, b3⟩ := m3.get
  clear m3
  replace X := X.below b3 X.lt
  replace H := H.make o3 b3
  clear o3 b3
  have x0 := X.c0
  have x1 := X.c1
  have x2 := X.c2
  have x3 := X.c3
  have x4 := X.c4
  have x5 := X.c5
  have x6 := X.c6
  have x7 := X.c7
  have xl := X.lt
  go_wp2_with fail
  clear x0 x1 x2 x3 x4 x5 x6 x7 xl
  refine (sFrameBody_any _ _ _ _ _ _ _ _ _ _ _ (H.rd 1 rfl rfl) hdl2).mono ?_
  rintro e w4 m4
  rw [HF.out] at m4
  change Makes2 2 _ r0 r1 _ _ at m4
  obtain ⟨p4, c4, rfl, o4, -, b4⟩ := m4.get
  clear m4
  replace X := X.below b4 X.lt
  replace H := H.make o4 b4
  clear o4 b4
  have n0 : (r1 != r1) = false := by simp
  have n1 : (ib != ib) = false := by simp
  go_upto_region 6 with fail
  have H1 := Lib.hid (H.still (Below.drew (Below.refl _ _))); have X1 := Lib.hid (X.below (Below.drew (Below.refl _ _)) X.lt); clear H X
  go_region_held3 (fun w' => w'.cell? ⟨bX, 0, none⟩ = some (.int .i64 a) ∧ w'.cell? ⟨bX, 1, none⟩ = some (.int .i64 q) ∧ w'.cell? ⟨bX, 2, none⟩ = some (.int .i64 t) ∧ w'.cell? ⟨bX, 3, none⟩ = some (.int .i64 m) ∧ w'.cell? ⟨bX, 4, none⟩ = some (.int .i64 r) ∧ w'.cell? ⟨bX, 5, none⟩ = some (.int .i64 s) ∧ w'.cell? ⟨bX, 6, none⟩ = some (.int .i64 k) ∧ w'.cell? ⟨bX, 7, none⟩ = some (.slice ao1 d.length cp1))
    (first | with_reducible exact frame_cells X1.out | with_reducible exact frame_cells X2.out | with_reducible exact frame_cells X3.out | with_reducible exact frame_cells X4.out)
    (first
      | (go_at_call 16; have RX := H1.out.rd 1 rfl rfl; have RY := H1.out.rd 0 rfl rfl; (with_reducible refine (like_yes _ _ _ _ _ _ _ _ RX RY ?_).mono ?_); (· omega); clear RX RY; rintro e w5 ⟨rfl, b5⟩; have X2 := Lib.hid (X1.out.below b5 X1.out.lt); have H2 := Lib.hid (H1.out.still b5); clear b5)
      | (go_at_call 17; have RX := H2.out.rd 2 rfl rfl; (with_reducible refine (isFrame_any _ _ _ _ _ _ _ _ _ _ _ RX hdl2).mono ?_); clear RX; rintro e w6 ⟨rfl, b6⟩; rw [HI.out]; have X3 := Lib.hid (X2.out.below b6 X2.out.lt); have H3 := Lib.hid (H2.out.still b6); clear b6)
      | (go_at_call 18; have RX := H3.out.rd 2 rfl rfl; (with_reducible refine (sIsFrame_any _ _ _ _ _ _ _ _ _ _ _ RX hdl2).mono ?_); clear RX; rintro e w7 ⟨rfl, b7⟩; rw [HI.out]; have X4 := Lib.hid (X3.out.below b7 X3.out.lt); have H4 := Lib.hid (H3.out.still b7); clear b7))
  have H := H4.out
  have X := X4.out
  clear H1 H2 H3 H4 X1 X2 X3 X4 n0 n1
  rcases hcode with hc | hc
  rotate_left
  · have t1 : (r1 != 0) = true := by simp [hc]
    clear hc
    go_wp2
    go_ret
    exact ⟨rfl, H.below⟩
  subst hc
  have hv := body_yes HF.out
  have hone := body_one HF.out
  have hrf : frameFrom r0 = (⟨a, q, t, m, r, s, k, d⟩, 0) := by have h := frame_round hv.1; rw [hv.2] at h; exact h
  have hbs : bodySize a d.length = ((r0.length : Int), 0) := by have h := body_size hv.1; rw [hv.2] at h; exact h
  have hkh : kindOfHead (r0.getD 0 0) = (a, 0) := by have h := head_of hv.1; rw [hv.2] at h; exact h
  have HRF := Lib.hid hrf; have HBS := Lib.hid hbs; have HKH := Lib.hid hkh; clear hrf hbs hkh hv
  go_wp2_with fail
  refine (frameFromBody_any _ _ _ _ (H.rd 1 rfl rfl) (by omega) (Own.cap (H.get 1 rfl)).1 (Own.cap (H.get 1 rfl)).2).mono ?_
  intro e w8 h8
  rw [HRF.out] at h8
  obtain ⟨p8, c8, rfl, o8, b8⟩ := h8
  simp only at o8 ⊢
  replace X := X.below b8 X.lt
  replace H := H.make o8 b8
  clear o8 b8
  have x0 := X.c0
  have x1 := X.c1
  have x2 := X.c2
  have x3 := X.c3
  have x4 := X.c4
  have x5 := X.c5
  have x6 := X.c6
  have x7 := X.c7
  have xl := X.lt
  go_wp2_with fail
  clear x0 x1 x2 x3 x4 x5 x6 x7 xl
  have hal : Below w8.heap.size w8 (w8.alloc (.cells #[.int .i64 a, .int .i64 q, .int .i64 t, .int .i64 m, .int .i64 r, .int .i64 s, .int .i64 k, .slice p8 d.length c8] 28)) := (Below.refl _ _).alloc (Nat.le_refl _) _
  have Y := FrameAt.new (T := 28) (a := a) (q := q) (t := t) (m := m) (r := r) (s := s) (k := k) (v := .slice p8 d.length c8) w8
  replace X := X.below hal X.lt
  replace H := H.still hal
  clear hal
  obtain ⟨bY, hbY⟩ : ∃ b, b = w8.heap.size := ⟨_, rfl⟩
  rw [← hbY] at Y ⊢
  clear hbY
  generalize w8.alloc (.cells #[.int .i64 a, .int .i64 q, .int .i64 t, .int .i64 m, .int .i64 r, .int .i64 s, .int .i64 k, .slice p8 d.length c8] 28) = w9 at X Y H ⊢
  refine (bodySize_any _ _ _).mono ?_
  rintro e w10 ⟨rfl, b10⟩
  rw [HBS.out]
  simp only
  replace X := X.below b10 X.lt
  replace Y := Y.below b10 Y.lt
  replace H := H.still b10
  clear b10
  obtain ⟨g4, off4, he4, hat4⟩ := (H.rd 1 rfl rfl).here (by omega)
  subst he4
  have hc4 := hat4 0 (by omega)
  clear hat4
  simp only [Nat.add_zero] at hc4
  generalize r0.getD 0 0 = hd at hc4 HKH
  go_wp2_with fail
  clear hc4
  refine (kindOfHead_any _ _).mono ?_
  rintro e w11 ⟨rfl, rfl⟩
  rw [HKH.out]
  simp only
  have x0 := X.c0
  have x1 := X.c1
  have x2 := X.c2
  have x3 := X.c3
  have x4 := X.c4
  have x5 := X.c5
  have x6 := X.c6
  have x7 := X.c7
  have xl := X.lt
  have y0 := Y.c0
  have y1 := Y.c1
  have y2 := Y.c2
  have y3 := Y.c3
  have y4 := Y.c4
  have y5 := Y.c5
  have y6 := Y.c6
  have y7 := Y.c7
  have s0 : (((r0.length : Int)) == (r0.length : Int)) = true := by simp
  have s1 : (a == a) = true := by simp
  go_wp2_with (go_at_call 22; refine (likeFrames_yes _ _ _ _ _ _ _ _ _ _ _ _ _ (H.rd 0 rfl rfl) (H.rd 3 rfl rfl) hdl2).mono ?_; rintro e w12 ⟨rfl, b12⟩; have xx0 := (X.below b12 X.lt).c0)
  go_ret
  exact ⟨rfl, (H.still b12).below⟩


end Go.Proofs.Ytnblbemkpojjdaa.fnFrames
