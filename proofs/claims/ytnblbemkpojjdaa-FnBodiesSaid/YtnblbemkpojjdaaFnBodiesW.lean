/-
  The walk of laws.FnBodies: at every input it returns true and writes nothing that was there.
-/
import Derived.Test.YtnblbemkpojjdaaRows
import Derived.Test.YtnblbemkpojjdaaGK
import Derived.Test.YtnblbemkpojjdaaBase
import Derived.WalkKit
import Derived.ProofKit
import Derived.OpenShut
import Derived.ShutString
import Derived.ChangeOld
import Derived.Below
namespace Go.Proofs.Ytnblbemkpojjdaa.fnBodies
open Go.ChangeShapes Go.WideShapes Go.ChangeAt Go.RowKit
open Go.ChangeMaps (open_string shut_string)
set_option linter.unusedVariables false


/-- WHAT THE WALK IS TOLD OF A SLICE OF INTEGERS THAT CAME IN: it is nil; or it leads to a row of 'cap' cells, the numbers 'zs' (the first 'len' are its elements, the rest its spare room), each fitting its kind. -/
def IsRow (k : IntKind) (w : World) (a : Option Addr) (len cap : Nat) (zs : List Int) : Prop :=
  (a = none ∧ len = 0 ∧ cap = 0 ∧ zs = []) ∨
  ∃ x, a = some x ∧ len ≤ cap ∧ cap ≤ maxLen ∧ zs.length = cap ∧ (∀ i, i < zs.length → w.cell? (x.add i) = some (.int k (zs.getD i 0))) ∧ ∀ n ∈ zs, (Lit.int k n).wf = true

/-! ### STEP 1: THE WALK: the Go text returns true, AND WRITES NOTHING THAT WAS THERE: 'Below w.heap.size w w'' (Derived/Below.lean: '.refl', '.alloc', '.drew', '.setCell' at a new block, '.trans'). Open each 'IsRow' by 'rcases' AHEAD of 'go_enter'; part every test ahead of the walk. -/
set_option maxHeartbeats 1000000 in set_option maxRecDepth 100000 in
theorem walk (a0 : Option Addr) (len0 cap0 : Nat) (z0 : List Int) (w : World) (w0 : IsRow .u8 w a0 len0 cap0 z0) :
    Calls Try.prog 4 #[.slice a0 len0 cap0] w fun e w' => e = .returned (.bool true) ∧ Below w.heap.size w w' := by
  have hr := rdB_of_row w0
  clear w0
  generalize List.take len0 z0 = cs at hr
  have HR := Lib.hid hr; clear hr
  by_cases hbig : len0 ≤ 4096
  rotate_left
  · go_enter Try.func4, Try.ntmps4
    go_wp2_with fail
    refine (big_yes _ _ _ _ hbig).mono ?_
    rintro e w' ⟨rfl, rfl⟩
    go_wp2
    go_ret
    exact ⟨rfl, Below.refl _ _⟩
  go_enter Try.func4, Try.ntmps4
  go_wp2_with fail
  refine (big_no _ _ _ _ hbig).mono ?_
  rintro e w' ⟨rfl, rfl⟩
  go_wp2_with fail
  refine (drawFrameFromBody_any _ _ _ cs _ HR.out (by omega)).mono ?_
  rintro e w1 ⟨ao1, cap1, xs, rfl, r1, hxl, hcap, hcap2, b1⟩
  have H : Held 2 w w1 [] := Held.start.still b1
  have R := Lib.hid r1
  clear b1 r1
  obtain ⟨⟨a, q, t, m, r, s, k, d⟩, c, hF⟩ : ∃ f c, frameFrom xs = (f, c) := ⟨_, _, rfl⟩
  have hdl : d.length ≤ 1048576 := by have h := frameFrom_len xs; rw [hF] at h; simp only at h; omega
  have HF := Lib.hid hF; clear hF
  have HC1 := Lib.hid hcap; have HC2 := Lib.hid hcap2; clear hcap hcap2
  go_wp2_with fail
  refine (frameFromBody_any _ _ _ _ R.out (by omega) HC1.out HC2.out).mono ?_
  intro e w2 h2
  rw [HF.out] at h2
  obtain ⟨p2, c2, rfl, o2, b2⟩ := h2
  simp only at o2 ⊢
  replace R := Lib.hid (R.out.below b2)
  replace H := H.make o2 b2
  clear o2 b2
  go_wp2_with fail
  have hal : Below w2.heap.size w2 (w2.alloc (.cells #[.int .i64 a, .int .i64 q, .int .i64 t, .int .i64 m, .int .i64 r, .int .i64 s, .int .i64 k, .slice p2 d.length c2] 28)) := (Below.refl _ _).alloc (Nat.le_refl _) _
  have X := FrameAt.new (T := 28) (a := a) (q := q) (t := t) (m := m) (r := r) (s := s) (k := k) (v := .slice p2 d.length c2) w2
  replace R := Lib.hid (R.out.below hal)
  replace H := H.still hal
  clear hal
  obtain ⟨bX, hbX⟩ : ∃ b, b = w2.heap.size := ⟨_, rfl⟩
  rw [← hbX] at X ⊢
  clear hbX
  generalize w2.alloc (.cells #[.int .i64 a, .int .i64 q, .int .i64 t, .int .i64 m, .int .i64 r, .int .i64 s, .int .i64 k, .slice p2 d.length c2] 28) = w3 at X R H ⊢
  refine (sFrameFromBody_any _ _ _ _ R.out (by omega) HC1.out HC2.out).mono ?_
  intro e w4 h4
  rw [HF.out] at h4
  obtain ⟨p4, c4, rfl, o4, b4⟩ := h4
  simp only at o4 ⊢
  replace R := Lib.hid (R.out.below b4)
  replace X := X.below b4 X.lt
  replace H := H.make o4 b4
  clear o4 b4
  have x0 := X.c0
  have x1 := X.c1
  have x2 := X.c2
  have x3 := X.c3
  have x4 := X.c4
  have x5 := X.c5
  have x6 := X.c6
  have x7 := X.c7
  have xl := X.lt
  go_wp2_with fail
  clear x0 x1 x2 x3 x4 x5 x6 x7 xl
  have hal : Below w4.heap.size w4 (w4.alloc (.cells #[.int .i64 a, .int .i64 q, .int .i64 t, .int .i64 m, .int .i64 r, .int .i64 s, .int .i64 k, .slice p4 d.length c4] 28)) := (Below.refl _ _).alloc (Nat.le_refl _) _
  have Y := FrameAt.new (T := 28) (a := a) (q := q) (t := t) (m := m) (r := r) (s := s) (k := k) (v := .slice p4 d.length c4) w4
  replace X := X.below hal X.lt
  replace R := Lib.hid (R.out.below hal)
  replace H := H.still hal
  clear hal
  obtain ⟨bY, hbY⟩ : ∃ b, b = w4.heap.size := ⟨_, rfl⟩
  rw [← hbY] at Y ⊢
  clear hbY
  generalize w4.alloc (.cells #[.int .i64 a, .int .i64 q, .int .i64 t, .int .i64 m, .int .i64 r, .int .i64 s, .int .i64 k, .slice p4 d.length c4] 28) = w5 at X Y R H ⊢
  refine (likeFrames_yes _ _ _ _ _ _ _ _ _ _ _ _ _ (H.rd 1 rfl rfl) (H.rd 0 rfl rfl) hdl).mono ?_
  rintro e w6 ⟨rfl, b6⟩
  replace R := Lib.hid (R.out.below b6)
  replace X := X.below b6 X.lt
  replace H := H.still b6
  clear b6 Y
  by_cases hc : c = 0
  rotate_left
  · have t1 : (c != 0) = true := by simp [hc]
    clear hc
    go_wp2
    go_ret
    exact ⟨rfl, H.below⟩
  subst hc
  have hv := from_frame HF.out
  have hB : frameBody ⟨a, q, t, m, r, s, k, d⟩ = (xs, 0) := by rw [body_ok hv.1, hv.2]
  have HB := Lib.hid hB; clear hB hv
  have x0 := X.c0
  have x1 := X.c1
  have x2 := X.c2
  have x3 := X.c3
  have x4 := X.c4
  have x5 := X.c5
  have x6 := X.c6
  have x7 := X.c7
  go_wp2_with fail
  clear x0 x1 x2 x3 x4 x5 x6 x7
  refine (frameBody_any _ _ _ _ _ _ _ _ _ _ _ (H.rd 1 rfl rfl) hdl).mono ?_
  rintro e w7 m7
  rw [HB.out] at m7
  change Makes2 2 _ xs 0 _ _ at m7
  obtain ⟨p7, c7, rfl, o7, -, b7⟩ := m7.get
  clear m7
  replace R := Lib.hid (R.out.below b7)
  replace H := H.make o7 b7
  clear o7 b7 X
  go_wp2_with fail
  refine (like_yes _ _ _ _ _ _ _ _ (H.rd 0 rfl rfl) R.out (by omega)).mono ?_
  rintro e w8 ⟨rfl, b8⟩
  replace H := H.still b8
  clear b8
  go_wp2_with fail
  go_ret
  exact ⟨rfl, H.below⟩


end Go.Proofs.Ytnblbemkpojjdaa.fnBodies
