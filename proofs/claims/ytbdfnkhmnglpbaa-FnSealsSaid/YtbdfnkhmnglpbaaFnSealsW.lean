/-
  The walk of laws.FnSeals: at every input it returns true and writes nothing that was there.
-/
import Derived.Test.YtbdfnkhmnglpbaaRows
import Derived.Test.YtbdfnkhmnglpbaaH9
import Derived.Test.YtbdfnkhmnglpbaaBase
import Derived.Test.YtbdfnkhmnglpbaaDrawA
import Derived.WalkKit
import Derived.ProofKit
import Derived.OpenShut
import Derived.ShutString
import Derived.ChangeOld
import Derived.Below
namespace Go.Proofs.Ytbdfnkhmnglpbaa.fnSeals
open Go.ChangeShapes Go.WideShapes Go.ChangeAt Go.RowKit
open Go.ChangeMaps (open_string shut_string)
set_option linter.unusedVariables false


/-- WHAT THE WALK IS TOLD OF A SLICE OF INTEGERS THAT CAME IN: it is nil; or it leads to a row of 'cap' cells, the numbers 'zs' (the first 'len' are its elements, the rest its spare room), each fitting its kind. -/
def IsRow (k : IntKind) (w : World) (a : Option Addr) (len cap : Nat) (zs : List Int) : Prop :=
  (a = none ∧ len = 0 ∧ cap = 0 ∧ zs = []) ∨
  ∃ x, a = some x ∧ len ≤ cap ∧ cap ≤ maxLen ∧ zs.length = cap ∧ (∀ i, i < zs.length → w.cell? (x.add i) = some (.int k (zs.getD i 0))) ∧ ∀ n ∈ zs, (Lit.int k n).wf = true

/-! ### STEP 1: THE WALK: the Go text returns true, AND WRITES NOTHING THAT WAS THERE: 'Below w.heap.size w w'' (Derived/Below.lean: '.refl', '.alloc', '.drew', '.setCell' at a new block, '.trans'). Open each 'IsRow' by 'rcases' AHEAD of 'go_enter'; part every test ahead of the walk. -/
set_option linter.unusedVariables false in set_option maxHeartbeats 2000000 in set_option maxRecDepth 100000 in
theorem walk (a0 : Option Addr) (len0 cap0 : Nat) (z0 : List Int) (w : World) (w0 : IsRow .u8 w a0 len0 cap0 z0) :
    Calls Try.prog 3 #[.slice a0 len0 cap0] w fun e w' => e = .returned (.bool true) ∧ Below w.heap.size w w' := by
  have hr := rdB_of_row w0
  clear w0
  generalize List.take len0 z0 = cs at hr
  have HR := Lib.hid hr; clear hr
  by_cases hbig : len0 ≤ 4096
  rotate_left
  · go_enter Try.func3, Try.ntmps3
    go_wp2_with fail
    refine (big_yes _ _ _ _ hbig).mono ?_
    rintro e w' ⟨rfl, rfl⟩
    go_wp2
    go_ret
    exact ⟨rfl, Below.refl _ _⟩
  go_enter Try.func3, Try.ntmps3
  go_wp2_with fail
  refine (big_no _ _ _ _ hbig).mono ?_
  rintro e w' ⟨rfl, rfl⟩
  go_wp2_with fail
  refine (drawSealFrame_any _ _ _ cs _ HR.out (by omega)).mono ?_
  rintro e w1 ⟨a, q, t, m, r, s, k, ao1, cp1, d, id, t', m', r', s', k', rfl, o1, hdl, b1⟩
  have H : Held 2 w w1 _ := Held.start.make o1 b1
  clear b1 o1
  obtain ⟨r0, r1, hF⟩ : ∃ r0 r1, sealFrame ⟨a, q, t, m, r, s, k, d⟩ id t' m' r' s' k' = (r0, r1) := ⟨_, _, rfl⟩
  obtain ⟨n0, n1, hN⟩ : ∃ n0 n1, sealNumber ⟨a, q, t, m, r, s, k, d⟩ id t' m' r' s' k' = (n0, n1) := ⟨_, _, rfl⟩
  have hrl : r0.length ≤ 45 := by have h := sealFrame_len ⟨a, q, t, m, r, s, k, d⟩ id t' m' r' s' k'; rw [hF] at h; exact h
  have HF := Lib.hid hF; have HN := Lib.hid hN; clear hF hN
  have hdl2 : d.length ≤ 1048576 := by omega
  go_upto_region 4 with fail
  have T := Two.start (a := a) (q := q) (t := t) (m := m) (r := r) (s := s) (k := k) (v := .slice ao1 d.length cp1) (t' := t') (m' := m') (r' := r') (s' := s') (k' := k') w1
  replace H := H.still T.below
  generalize (w1.alloc (.cells #[.int .i64 a, .int .i64 q, .int .i64 t, .int .i64 m, .int .i64 r, .int .i64 s, .int .i64 k, .slice ao1 d.length cp1] 28)).alloc (.cells #[.int .i64 t', .int .i64 m', .int .i64 r', .int .i64 s', .int .i64 k'] 25) = w2 at T H ⊢
  obtain ⟨⟨c0, c1, c2, c3, c4, c5, c6, c7⟩, d0, d1, d2, d3, d4⟩ := T.all
  go_wp2_with fail
  clear c0 c1 c2 c3 c4 c5 c6 c7 d0 d1 d2 d3 d4
  refine (sealFrame_any _ _ _ _ _ _ _ _ _ _ _ _ _ _ _ _ _ (H.rd 0 rfl rfl) hdl2).mono ?_
  rintro e w3 m3
  rw [HF.out] at m3
  change Makes2 2 _ r0 r1 _ _ at m3
  obtain ⟨p3, c3, rfl, o3, -, b3⟩ := m3.get
  clear m3
  replace T := T.call b3
  replace H := H.make o3 b3
  clear o3 b3
  obtain ⟨⟨c0, c1, c2, c3, c4, c5, c6, c7⟩, d0, d1, d2, d3, d4⟩ := T.all
  go_wp2_with fail
  clear c0 c1 c2 c3 c4 c5 c6 c7 d0 d1 d2 d3 d4
  refine (sSealFrame_any _ _ _ _ _ _ _ _ _ _ _ _ _ _ _ _ _ (H.rd 1 rfl rfl) hdl2).mono ?_
  rintro e w4 m4
  rw [HF.out] at m4
  change Makes2 2 _ r0 r1 _ _ at m4
  obtain ⟨p4, c4, rfl, o4, -, b4⟩ := m4.get
  clear m4
  replace T := T.call b4
  replace H := H.make o4 b4
  clear o4 b4
  obtain ⟨⟨c0, c1, c2, c3, c4, c5, c6, c7⟩, d0, d1, d2, d3, d4⟩ := T.all
  go_wp2_with fail
  clear c0 c1 c2 c3 c4 c5 c6 c7 d0 d1 d2 d3 d4
  refine (sealNumber_any _ _ _ _ _ _ _ _ _ _ _ _ _ _ _ _ _ (H.rd 2 rfl rfl) hdl2).mono ?_
  rintro e w5 ⟨rfl, b5⟩
  rw [HN.out]
  simp only
  replace T := T.call b5
  replace H := H.still b5
  clear b5
  obtain ⟨⟨c0, c1, c2, c3, c4, c5, c6, c7⟩, d0, d1, d2, d3, d4⟩ := T.all
  go_wp2_with fail
  clear c0 c1 c2 c3 c4 c5 c6 c7 d0 d1 d2 d3 d4
  refine (sSealNumber_any _ _ _ _ _ _ _ _ _ _ _ _ _ _ _ _ _ (H.rd 2 rfl rfl) hdl2).mono ?_
  rintro e w6 ⟨rfl, b6⟩
  rw [HN.out]
  simp only
  replace T := T.call b6
  replace H := H.still b6
  clear b6
  have n0' : (r1 != r1) = false := by simp
  have n1' : (n0 != n0) = false := by simp
  have n2' : (n1 != n1) = false := by simp
  go_wp2_with fail
  refine (like_yes _ _ _ _ _ _ _ _ (H.rd 1 rfl rfl) (H.rd 0 rfl rfl) (by omega)).mono ?_
  rintro e w7 ⟨rfl, b7⟩
  replace T := T.call b7
  replace H := H.still b7
  clear b7
  by_cases hc : r1 = 0
  rotate_left
  · have t1 : (r1 != 0) = true := by simp [hc]
    clear hc
    go_wp2
    go_ret
    exact ⟨rfl, H.below⟩
  subst hc
  have hso := seal_open HF.out
  have hsz := seal_size HF.out
  simp only at hso hsz
  have hkk := hasState_ne (isFrame_parts (sealCode_0 (seal_yes HF.out).1).1).1
  simp only at hkk
  have HSZ := Lib.hid hsz; clear hsz
  obtain ⟨d0, d1, d2, d3, d4⟩ := T.all.2
  go_wp2_with fail
  clear d0 d1 d2 d3 d4 n0' n1' n2'
  refine (openFrame_any _ _ _ _ _ _ _ _ _ _ (H.rd 1 rfl rfl) (by omega) (Own.cap (H.get 1 rfl)).1 (Own.cap (H.get 1 rfl)).2).mono ?_
  intro e w8 h8
  by_cases hcond : (a != 0) = true ∧ ¬ (t = t' ∧ m = m' ∧ r = r' ∧ s = s' ∧ k = k')
  · obtain ⟨ha, hne⟩ := hcond
    rw [hso, if_pos ⟨by rw [← hkk]; exact ha, hne⟩] at h8
    obtain ⟨p8, c8, rfl, o8, b8⟩ := h8
    simp only [Fr.zero] at o8 ⊢
    have hnq := fun W => state_neq_other hne W
    replace T := T.call b8
    replace H := H.still b8
    clear o8 b8 hso hkk hne
    have hal : Below w8.heap.size w8 (w8.alloc (.cells #[.int .i64 0, .int .i64 0, .int .i64 0, .int .i64 0, .int .i64 0, .int .i64 0, .int .i64 0, .slice p8 (List.length ([] : List Int)) c8] 28)) := (Below.refl _ _).alloc (Nat.le_refl _) _
    go_upto_region 13 with fail
    replace T := T.call hal
    replace H := H.still hal
    clear hal
    generalize w8.alloc (.cells #[.int .i64 0, .int .i64 0, .int .i64 0, .int .i64 0, .int .i64 0, .int .i64 0, .int .i64 0, .slice p8 (List.length ([] : List Int)) c8] 28) = w9 at T H ⊢
    obtain ⟨⟨c0, c1, c2, c3, c4, c5, c6, c7⟩, d0, d1, d2, d3, d4⟩ := T.all
    go_wp2_with fail
    go_ret
    exact ⟨rfl, H.below⟩
  have hop : openFrame r0 id t' m' r' s' k' = (⟨a, q, t, m, r, s, k, d⟩, 0) := by
    rw [hso, if_neg]
    rintro ⟨h1, h2⟩
    exact hcond ⟨by rw [hkk]; exact h1, h2⟩
  have hio : isOpenable r0 id t' m' r' s' k' = true := by unfold isOpenable; rw [hop]; rfl
  have HIO := Lib.hid hio
  rw [hop] at h8
  obtain ⟨p8, c8, rfl, o8, b8⟩ := h8
  simp only at o8 ⊢
  replace T := T.call b8
  replace H := H.make o8 b8
  clear o8 b8 hso hkk hop hio
  have hal : Below w8.heap.size w8 (w8.alloc (.cells #[.int .i64 a, .int .i64 q, .int .i64 t, .int .i64 m, .int .i64 r, .int .i64 s, .int .i64 k, .slice p8 d.length c8] 28)) := (Below.refl _ _).alloc (Nat.le_refl _) _
  have X := FrameAt.new (T := 28) (a := a) (q := q) (t := t) (m := m) (r := r) (s := s) (k := k) (v := .slice p8 d.length c8) w8
  go_upto_region 13 with fail
  replace T := T.call hal
  replace H := H.still hal
  clear hal
  obtain ⟨bX, hbX⟩ : ∃ b, b = w8.heap.size := ⟨_, rfl⟩
  rw [← hbX] at X ⊢
  clear hbX
  generalize w8.alloc (.cells #[.int .i64 a, .int .i64 q, .int .i64 t, .int .i64 m, .int .i64 r, .int .i64 s, .int .i64 k, .slice p8 d.length c8] 28) = w9 at T X H ⊢
  -- the size, behind either way through the condition
  have htail : (a != 0) = false ∨ (a != 0) = true ∧ t = t' ∧ m = m' ∧ r = r' ∧ s = s' ∧ k = k' := by
    rcases ha : (a != 0) with _ | _
    · exact .inl rfl
    · refine .inr ⟨rfl, ?_⟩
      by_cases h : t = t' ∧ m = m' ∧ r = r' ∧ s = s' ∧ k = k'
      · exact h
      · exact absurd ⟨ha, h⟩ hcond
  clear hcond
  rcases htail with ha | ⟨ha, rfl, rfl, rfl, rfl, rfl⟩
  · obtain ⟨⟨c0, c1, c2, c3, c4, c5, c6, c7⟩, d0, d1, d2, d3, d4⟩ := T.all
    go_wp2_with fail
    clear c0 c1 c2 c3 c4 c5 c6 c7 d0 d1 d2 d3 d4
    refine (sealSize_any _ _ _).mono ?_
    rintro e w10 ⟨rfl, b10⟩
    rw [HSZ.out]
    simp only
    replace T := T.call b10
    replace X := X.below b10 X.lt
    replace H := H.still b10
    clear b10
    obtain ⟨⟨c0, c1, c2, c3, c4, c5, c6, c7⟩, d0, d1, d2, d3, d4⟩ := T.all
    obtain ⟨x0, x1, x2, x3, x4, x5, x6, x7⟩ := frame_cells X
    have s0 : (((r0.length : Int)) == (r0.length : Int)) = true := by simp
    go_wp2_with fail
    clear c0 c1 c2 c3 c4 c5 c6 c7 d0 d1 d2 d3 d4 x0 x1 x2 x3 x4 x5 x6 x7
    refine (likeFrames_yes _ _ _ _ _ _ _ _ _ _ _ _ _ (H.rd 0 rfl rfl) (H.rd 3 rfl rfl) hdl2).mono ?_
    rintro e w11 ⟨rfl, b11⟩
    replace T := T.call b11
    replace H := H.still b11
    clear b11
    obtain ⟨d0, d1, d2, d3, d4⟩ := T.all.2
    go_wp2_with fail
    clear d0 d1 d2 d3 d4
    refine (isOpenable_any _ _ _ _ _ _ _ _ _ _ (H.rd 2 rfl rfl) (by omega) (Own.cap (H.get 2 rfl)).1 (Own.cap (H.get 2 rfl)).2).mono ?_
    rintro e w12 ⟨rfl, b12⟩
    rw [HIO.out]
    go_wp2
    go_ret
    exact ⟨rfl, (H.still b12).below⟩
  · obtain ⟨⟨c0, c1, c2, c3, c4, c5, c6, c7⟩, d0, d1, d2, d3, d4⟩ := T.all
    have hnq := fun W => state_neq_same t m r s k W
    go_wp2_with fail
    clear c0 c1 c2 c3 c4 c5 c6 c7 d0 d1 d2 d3 d4
    refine (sealSize_any _ _ _).mono ?_
    rintro e w10 ⟨rfl, b10⟩
    rw [HSZ.out]
    simp only
    replace T := T.call b10
    replace X := X.below b10 X.lt
    replace H := H.still b10
    clear b10
    obtain ⟨⟨c0, c1, c2, c3, c4, c5, c6, c7⟩, d0, d1, d2, d3, d4⟩ := T.all
    obtain ⟨x0, x1, x2, x3, x4, x5, x6, x7⟩ := frame_cells X
    have s0 : (((r0.length : Int)) == (r0.length : Int)) = true := by simp
    go_wp2_with fail
    clear c0 c1 c2 c3 c4 c5 c6 c7 d0 d1 d2 d3 d4 x0 x1 x2 x3 x4 x5 x6 x7
    refine (likeFrames_yes _ _ _ _ _ _ _ _ _ _ _ _ _ (H.rd 0 rfl rfl) (H.rd 3 rfl rfl) hdl2).mono ?_
    rintro e w11 ⟨rfl, b11⟩
    replace T := T.call b11
    replace H := H.still b11
    clear b11
    obtain ⟨d0, d1, d2, d3, d4⟩ := T.all.2
    go_wp2_with fail
    clear d0 d1 d2 d3 d4
    refine (isOpenable_any _ _ _ _ _ _ _ _ _ _ (H.rd 2 rfl rfl) (by omega) (Own.cap (H.get 2 rfl)).1 (Own.cap (H.get 2 rfl)).2).mono ?_
    rintro e w12 ⟨rfl, b12⟩
    rw [HIO.out]
    go_wp2
    go_ret
    exact ⟨rfl, (H.still b12).below⟩


end Go.Proofs.Ytbdfnkhmnglpbaa.fnSeals
