/-
  The walk of laws.FnOpened: at every input it returns true and writes nothing that was there.
-/
import Derived.Test.YtbdfnkhmnglpbaaRows
import Derived.Test.YtbdfnkhmnglpbaaHC
import Derived.Test.YtbdfnkhmnglpbaaBase
import Derived.Test.YtbdfnkhmnglpbaaDrawA
import Derived.WalkKit
import Derived.ProofKit
import Derived.OpenShut
import Derived.ShutString
import Derived.ChangeOld
import Derived.Below
namespace Go.Proofs.Ytbdfnkhmnglpbaa.fnOpened
open Go.ChangeShapes Go.WideShapes Go.ChangeAt Go.RowKit
open Go.ChangeMaps (open_string shut_string)
set_option linter.unusedVariables false


/-- WHAT THE WALK IS TOLD OF A SLICE OF INTEGERS THAT CAME IN: it is nil; or it leads to a row of 'cap' cells, the numbers 'zs' (the first 'len' are its elements, the rest its spare room), each fitting its kind. -/
def IsRow (k : IntKind) (w : World) (a : Option Addr) (len cap : Nat) (zs : List Int) : Prop :=
  (a = none ∧ len = 0 ∧ cap = 0 ∧ zs = []) ∨
  ∃ x, a = some x ∧ len ≤ cap ∧ cap ≤ maxLen ∧ zs.length = cap ∧ (∀ i, i < zs.length → w.cell? (x.add i) = some (.int k (zs.getD i 0))) ∧ ∀ n ∈ zs, (Lit.int k n).wf = true

/-! ### STEP 1: THE WALK: the Go text returns true, AND WRITES NOTHING THAT WAS THERE: 'Below w.heap.size w w'' (Derived/Below.lean: '.refl', '.alloc', '.drew', '.setCell' at a new block, '.trans'). Open each 'IsRow' by 'rcases' AHEAD of 'go_enter'; part every test ahead of the walk. -/
set_option linter.unusedVariables false in set_option maxHeartbeats 2000000 in set_option maxRecDepth 100000 in
theorem walk (a0 : Option Addr) (len0 cap0 : Nat) (z0 : List Int) (w : World) (w0 : IsRow .u8 w a0 len0 cap0 z0) :
    Calls Try.prog 4 #[.slice a0 len0 cap0] w fun e w' => e = .returned (.bool true) ∧ Below w.heap.size w w' := by
  have hr := rdB_of_row w0
  clear w0
  generalize List.take len0 z0 = cs at hr
  have HR := Lib.hid hr; clear hr
  by_cases hbig : len0 ≤ 4096
  rotate_left
  · go_enter Try.func4, Try.ntmps4
    go_wp2_with fail
    refine (big_yes _ _ _ _ hbig).mono ?_
    rintro e w' ⟨rfl, rfl⟩
    go_wp2
    go_ret
    exact ⟨rfl, Below.refl _ _⟩
  go_enter Try.func4, Try.ntmps4
  go_wp2_with fail
  refine (big_no _ _ _ _ hbig).mono ?_
  rintro e w' ⟨rfl, rfl⟩
  go_wp2_with fail
  refine (drawOpenFrame_any _ _ _ cs _ HR.out (by omega)).mono ?_
  rintro e w1 ⟨ao1, cp1, xs, id, t', m', r', s', k', rfl, r1, hxl, hcap, hcap2, b1⟩
  have H : Held 2 w w1 [] := Held.start.still b1
  have R := Lib.hid r1
  clear b1 r1
  obtain ⟨⟨a, q, t, m, r, s, k, d⟩, c, hF⟩ : ∃ f c, openFrame xs id t' m' r' s' k' = (f, c) := ⟨_, _, rfl⟩
  have hdl : d.length ≤ 1048576 := by have h := openFrame_data xs id t' m' r' s' k'; rw [hF] at h; simp only at h; omega
  obtain ⟨ib, hib⟩ : ∃ b, isOpenable xs id t' m' r' s' k' = b := ⟨_, rfl⟩
  have hic : ib = (c == 0) := by rw [← hib]; unfold isOpenable; rw [hF]
  have HF := Lib.hid hF; have HI := Lib.hid hib; clear hF hib
  have HC1 := Lib.hid hcap; have HC2 := Lib.hid hcap2; clear hcap hcap2
  go_upto_region 4 with fail
  have hal : Below w1.heap.size w1 (w1.alloc (.cells #[.int .i64 t', .int .i64 m', .int .i64 r', .int .i64 s', .int .i64 k'] 25)) := (Below.refl _ _).alloc (Nat.le_refl _) _
  have S := StateAt.new (T := 25) (t := t') (m := m') (r := r') (s := s') (k := k') w1
  replace R := Lib.hid (R.out.below hal)
  replace H := H.still hal
  clear hal
  obtain ⟨bS, hbS⟩ : ∃ b, b = w1.heap.size := ⟨_, rfl⟩
  rw [← hbS] at S ⊢
  clear hbS
  generalize w1.alloc (.cells #[.int .i64 t', .int .i64 m', .int .i64 r', .int .i64 s', .int .i64 k'] 25) = w2 at S R H ⊢
  obtain ⟨d0, d1, d2, d3, d4⟩ := state_cells S
  go_wp2_with fail
  clear d0 d1 d2 d3 d4
  refine (openFrame_any _ _ _ _ _ _ _ _ _ _ R.out (by omega) HC1.out HC2.out).mono ?_
  intro e w3 h3
  rw [HF.out] at h3
  obtain ⟨p3, c3, rfl, o3, b3⟩ := h3
  (try clear h3)
  simp only at o3 ⊢
  replace R := Lib.hid (R.out.below b3)
  replace S := S.below b3 S.lt
  replace H := H.make o3 b3
  clear o3 b3
  have hal : Below w3.heap.size w3 (w3.alloc (.cells #[.int .i64 a, .int .i64 q, .int .i64 t, .int .i64 m, .int .i64 r, .int .i64 s, .int .i64 k, .slice p3 d.length c3] 28)) := (Below.refl _ _).alloc (Nat.le_refl _) _
  have X := FrameAt.new (T := 28) (a := a) (q := q) (t := t) (m := m) (r := r) (s := s) (k := k) (v := .slice p3 d.length c3) w3
  replace R := Lib.hid (R.out.below hal)
  go_upto_region 5 with fail
  replace S := S.below hal S.lt
  replace H := H.still hal
  clear hal
  obtain ⟨bX, hbX⟩ : ∃ b, b = w3.heap.size := ⟨_, rfl⟩
  rw [← hbX] at X ⊢
  clear hbX
  generalize w3.alloc (.cells #[.int .i64 a, .int .i64 q, .int .i64 t, .int .i64 m, .int .i64 r, .int .i64 s, .int .i64 k, .slice p3 d.length c3] 28) = w4 at S X R H ⊢
  obtain ⟨d0, d1, d2, d3, d4⟩ := state_cells S
  go_wp2_with fail
  clear d0 d1 d2 d3 d4
  refine (sOpenFrame_any _ _ _ _ _ _ _ _ _ _ R.out (by omega) HC1.out HC2.out).mono ?_
  intro e w5 h5
  rw [HF.out] at h5
  obtain ⟨p5, c5, rfl, o5, b5⟩ := h5
  (try clear h5)
  simp only at o5 ⊢
  replace R := Lib.hid (R.out.below b5)
  replace S := S.below b5 S.lt
  replace X := X.below b5 X.lt
  replace H := H.make o5 b5
  clear o5 b5
  have hal : Below w5.heap.size w5 (w5.alloc (.cells #[.int .i64 a, .int .i64 q, .int .i64 t, .int .i64 m, .int .i64 r, .int .i64 s, .int .i64 k, .slice p5 d.length c5] 28)) := (Below.refl _ _).alloc (Nat.le_refl _) _
  have Y := FrameAt.new (T := 28) (a := a) (q := q) (t := t) (m := m) (r := r) (s := s) (k := k) (v := .slice p5 d.length c5) w5
  replace R := Lib.hid (R.out.below hal)
  go_upto_region 6 with fail
  replace S := S.below hal S.lt
  replace X := X.below hal X.lt
  replace H := H.still hal
  clear hal
  obtain ⟨bY, hbY⟩ : ∃ b, b = w5.heap.size := ⟨_, rfl⟩
  rw [← hbY] at Y ⊢
  clear hbY
  generalize w5.alloc (.cells #[.int .i64 a, .int .i64 q, .int .i64 t, .int .i64 m, .int .i64 r, .int .i64 s, .int .i64 k, .slice p5 d.length c5] 28) = w6 at S X Y R H ⊢
  have n0 : (c != c) = false := by simp
  have n1 : ((c == 0) != (c == 0)) = false := by simp
  obtain ⟨x0, x1, x2, x3, x4, x5, x6, x7⟩ := frame_cells X
  obtain ⟨y0, y1, y2, y3, y4, y5, y6, y7⟩ := frame_cells Y
  go_wp2_with fail
  clear x0 x1 x2 x3 x4 x5 x6 x7 y0 y1 y2 y3 y4 y5 y6 y7
  refine (likeFrames_yes _ _ _ _ _ _ _ _ _ _ _ _ _ (H.rd 1 rfl rfl) (H.rd 0 rfl rfl) hdl).mono ?_
  rintro e w7 ⟨rfl, b7⟩
  replace R := Lib.hid (R.out.below b7)
  replace S := S.below b7 S.lt
  replace X := X.below b7 X.lt
  replace Y := Y.below b7 Y.lt
  replace H := H.still b7
  clear b7
  obtain ⟨d0, d1, d2, d3, d4⟩ := state_cells S
  go_wp2_with fail
  clear d0 d1 d2 d3 d4
  refine (isOpenable_any _ _ _ _ _ _ _ _ _ _ R.out (by omega) HC1.out HC2.out).mono ?_
  rintro e w8 ⟨rfl, b8⟩
  rw [HI.out, hic]
  replace R := Lib.hid (R.out.below b8)
  replace S := S.below b8 S.lt
  replace X := X.below b8 X.lt
  replace Y := Y.below b8 Y.lt
  replace H := H.still b8
  clear b8 hic HI
  by_cases hc : c = 0
  rotate_left
  · have t1 : (c != 0) = true := by simp [hc]
    clear hc
    go_wp2
    go_ret
    exact ⟨rfl, H.below⟩
  subst hc
  have hos := open_seal HF.out
  have HOS := Lib.hid hos; clear hos
  obtain ⟨d0, d1, d2, d3, d4⟩ := state_cells S
  obtain ⟨x0, x1, x2, x3, x4, x5, x6, x7⟩ := frame_cells X
  go_wp2_with fail
  clear d0 d1 d2 d3 d4 x0 x1 x2 x3 x4 x5 x6 x7 n0 n1
  refine (sealFrame_any _ _ _ _ _ _ _ _ _ _ _ _ _ _ _ _ _ (H.rd 1 rfl rfl) hdl).mono ?_
  rintro e w9 m9
  rw [HOS.out] at m9
  change Makes2 2 _ xs 0 _ _ at m9
  obtain ⟨p9, c9, rfl, o9, -, b9⟩ := m9.get
  clear m9
  replace R := Lib.hid (R.out.below b9)
  replace H := H.make o9 b9
  clear o9 b9
  go_wp2_with fail
  refine (like_yes _ _ _ _ _ _ _ _ (H.rd 0 rfl rfl) R.out (by omega)).mono ?_
  rintro e wa ⟨rfl, ba⟩
  replace H := H.still ba
  clear ba
  go_wp2
  go_ret
  exact ⟨rfl, H.below⟩


end Go.Proofs.Ytbdfnkhmnglpbaa.fnOpened
