/-
  Chapter 4: AdvanceState on the specification's side.
-/
import Derived.Test.YtenlfonekcpblaaC4c
namespace Go.Proofs.Ytenlfonekcpblaa
open Go.RowKit

section
variable {t m r s k d slots rounds : Int}
theorem l04Advance_any (hA : isState t m r s k = true) (h0 : 0 ≤ d ∧ d ≤ 65535) (_h4 : s < slots) (h5 : r < rounds) (_h6 : slots ≤ 256) (_h7 : rounds ≤ 16) (w : World) :
    Calls Try.prog 36 #[.agg #[.int .i64 t, .int .i64 m, .int .i64 r, .int .i64 s, .int .i64 k], .int .i64 d, .int .i64 slots, .int .i64 rounds] w (GivesState w ((t + d) % 65536) m (stepRS slots rounds r s).1 (stepRS slots rounds r s).2 k) := by
  obtain ⟨⟨t0, t1⟩, -, ⟨r0, r1⟩, ⟨s0, s1⟩, -⟩ := isState_iff.1 hA
  obtain ⟨h0, h1⟩ := h0
  clear hA
  by_cases hs : s + 1 = slots
  · have hst : stepRS slots rounds r s = ((r + 1) % rounds, 0) := by unfold stepRS; rw [if_pos hs]
    rw [hst]
    have hb : (s + 1 == slots) = true := by simp [hs]
    clear hst hs
    go_enter Try.func36, Try.ntmps36
    go_wp2
    exact bodyPost_ret (v := .agg #[.int .i64 ((t + d) % 65536), .int .i64 m, .int .i64 ((r + 1) % rounds), .int .i64 0, .int .i64 k]) (by simp [results, Try.results36, go_sem]) rfl ⟨rfl, (((Below.refl _ _).alloc (Nat.le_refl _) _).alloc (by simp) _).alloc (by simp; omega) _⟩
  · have hst : stepRS slots rounds r s = (r, s + 1) := by unfold stepRS; rw [if_neg hs]
    rw [hst]
    have hb : (s + 1 == slots) = false := by simp [hs]
    clear hst hs
    go_enter Try.func36, Try.ntmps36
    go_wp2
    exact bodyPost_ret (v := .agg #[.int .i64 ((t + d) % 65536), .int .i64 m, .int .i64 r, .int .i64 (s + 1), .int .i64 k]) (by simp [results, Try.results36, go_sem]) rfl ⟨rfl, (((Below.refl _ _).alloc (Nat.le_refl _) _).alloc (by simp) _).alloc (by simp; omega) _⟩
theorem in_iff {lo hi x : Int} : inRange lo hi x = true ↔ lo ≤ x ∧ x ≤ hi := by simp [inRange]
theorem in_not {lo hi x : Int} (h : inRange lo hi x = false) : ¬ (lo ≤ x ∧ x ≤ hi) := fun k => by rw [in_iff.2 k] at h; cases h
end
set_option maxHeartbeats 1000000 in
theorem sAdvanceState_any (t m r s k d slots rounds : Int) (w : World) :
    Calls Try.prog 14 #[.agg #[.int .i64 t, .int .i64 m, .int .i64 r, .int .i64 s, .int .i64 k], .int .i64 d, .int .i64 slots, .int .i64 rounds] w (GivesState2 w (advanced t m r s k d slots rounds)) := by
  rcases hA : isState t m r s k with _ | _
  · rw [ad_1 hA]
    have HA := Lib.hid hA; clear hA
    go_enter Try.func14, Try.ntmps14
    go_wp2_with fail
    refine (sIsState_any _ _ _ _ _ _).mono ?_
    rintro e w1 ⟨rfl, b1⟩
    rw [HA.out]
    obtain ⟨S1, S2⟩ := state_new2 b1
    have HZ := Lib.hid b1; clear b1
    have c0 := S2.c0
    have c1 := S2.c1
    have c2 := S2.c2
    have c3 := S2.c3
    have c4 := S2.c4
    have f0 := S2.f 0
    have f1 := S2.f 1
    have f2 := S2.f 2
    have f3 := S2.f 3
    have f4 := S2.f 4
    have HS := Lib.hid S2; clear S1 S2
    go_wp2_with fail
    clear c0 c1 c2 c3 c4 f0 f1 f2 f3 f4
    change bodyPost _ _ _ _ _ (setFive w1 (w.heap.size + 1) 0 0 0 0 0)
    have SF := StateAt.five (HS.out) 0 0 0 0 0
    have BF := below_two' (below_box2 HZ.out) (below_five (B := w.heap.size) (w := w1) (b := w.heap.size + 1) (by omega) 0 0 0 0 0)
    generalize setFive w1 (w.heap.size + 1) 0 0 0 0 0 = wz at SF BF ⊢
    have e0 := SF.c0
    have e1 := SF.c1
    have e2 := SF.c2
    have e3 := SF.c3
    have e4 := SF.c4
    exact bodyPost_ret (v := .tuple #[.agg #[.int .i64 0, .int .i64 0, .int .i64 0, .int .i64 0, .int .i64 0], .int .i64 1]) (by simp [results, Try.results14, go_sem, e0, e1, e2, e3, e4]) rfl ⟨rfl, BF⟩
  have HA := Lib.hid hA
  rcases h0 : inRange 0 65535 d with _ | _
  · rw [ad_2 hA (may_not (by have := in_not h0; omega))]
    clear hA
    go_enter Try.func14, Try.ntmps14
    go_wp2_with fail
    refine (sIsState_any _ _ _ _ _ _).mono ?_
    rintro e w1 ⟨rfl, b1⟩
    rw [HA.out]
    obtain ⟨S1, S2⟩ := state_new2 b1
    have HZ := Lib.hid b1; clear b1
    have c0 := S2.c0
    have c1 := S2.c1
    have c2 := S2.c2
    have c3 := S2.c3
    have c4 := S2.c4
    have f0 := S2.f 0
    have f1 := S2.f 1
    have f2 := S2.f 2
    have f3 := S2.f 3
    have f4 := S2.f 4
    have HS := Lib.hid S2; clear S1 S2
    go_wp2_with (go_at_call 35; refine (l01In_any _ _ _ _).mono ?_; rintro e w' ⟨rfl, rfl⟩)
    clear c0 c1 c2 c3 c4 f0 f1 f2 f3 f4
    change bodyPost _ _ _ _ _ (setFive w1 (w.heap.size + 1) 0 0 0 0 0)
    have SF := StateAt.five (HS.out) 0 0 0 0 0
    have BF := below_two' (below_box2 HZ.out) (below_five (B := w.heap.size) (w := w1) (b := w.heap.size + 1) (by omega) 0 0 0 0 0)
    generalize setFive w1 (w.heap.size + 1) 0 0 0 0 0 = wz at SF BF ⊢
    have e0 := SF.c0
    have e1 := SF.c1
    have e2 := SF.c2
    have e3 := SF.c3
    have e4 := SF.c4
    exact bodyPost_ret (v := .tuple #[.agg #[.int .i64 0, .int .i64 0, .int .i64 0, .int .i64 0, .int .i64 0], .int .i64 2]) (by simp [results, Try.results14, go_sem, e0, e1, e2, e3, e4]) rfl ⟨rfl, BF⟩
  rcases h1 : inRange 1 256 slots with _ | _
  · rw [ad_2 hA (may_not (by have := in_not h1; omega))]
    clear hA
    go_enter Try.func14, Try.ntmps14
    go_wp2_with fail
    refine (sIsState_any _ _ _ _ _ _).mono ?_
    rintro e w1 ⟨rfl, b1⟩
    rw [HA.out]
    obtain ⟨S1, S2⟩ := state_new2 b1
    have HZ := Lib.hid b1; clear b1
    have c0 := S2.c0
    have c1 := S2.c1
    have c2 := S2.c2
    have c3 := S2.c3
    have c4 := S2.c4
    have f0 := S2.f 0
    have f1 := S2.f 1
    have f2 := S2.f 2
    have f3 := S2.f 3
    have f4 := S2.f 4
    have HS := Lib.hid S2; clear S1 S2
    go_wp2_with (go_at_call 35; refine (l01In_any _ _ _ _).mono ?_; rintro e w' ⟨rfl, rfl⟩)
    clear c0 c1 c2 c3 c4 f0 f1 f2 f3 f4
    change bodyPost _ _ _ _ _ (setFive w1 (w.heap.size + 1) 0 0 0 0 0)
    have SF := StateAt.five (HS.out) 0 0 0 0 0
    have BF := below_two' (below_box2 HZ.out) (below_five (B := w.heap.size) (w := w1) (b := w.heap.size + 1) (by omega) 0 0 0 0 0)
    generalize setFive w1 (w.heap.size + 1) 0 0 0 0 0 = wz at SF BF ⊢
    have e0 := SF.c0
    have e1 := SF.c1
    have e2 := SF.c2
    have e3 := SF.c3
    have e4 := SF.c4
    exact bodyPost_ret (v := .tuple #[.agg #[.int .i64 0, .int .i64 0, .int .i64 0, .int .i64 0, .int .i64 0], .int .i64 2]) (by simp [results, Try.results14, go_sem, e0, e1, e2, e3, e4]) rfl ⟨rfl, BF⟩
  rcases h2 : inRange 1 16 rounds with _ | _
  · rw [ad_2 hA (may_not (by have := in_not h2; omega))]
    clear hA
    go_enter Try.func14, Try.ntmps14
    go_wp2_with fail
    refine (sIsState_any _ _ _ _ _ _).mono ?_
    rintro e w1 ⟨rfl, b1⟩
    rw [HA.out]
    obtain ⟨S1, S2⟩ := state_new2 b1
    have HZ := Lib.hid b1; clear b1
    have c0 := S2.c0
    have c1 := S2.c1
    have c2 := S2.c2
    have c3 := S2.c3
    have c4 := S2.c4
    have f0 := S2.f 0
    have f1 := S2.f 1
    have f2 := S2.f 2
    have f3 := S2.f 3
    have f4 := S2.f 4
    have HS := Lib.hid S2; clear S1 S2
    go_wp2_with (go_at_call 35; refine (l01In_any _ _ _ _).mono ?_; rintro e w' ⟨rfl, rfl⟩)
    clear c0 c1 c2 c3 c4 f0 f1 f2 f3 f4
    change bodyPost _ _ _ _ _ (setFive w1 (w.heap.size + 1) 0 0 0 0 0)
    have SF := StateAt.five (HS.out) 0 0 0 0 0
    have BF := below_two' (below_box2 HZ.out) (below_five (B := w.heap.size) (w := w1) (b := w.heap.size + 1) (by omega) 0 0 0 0 0)
    generalize setFive w1 (w.heap.size + 1) 0 0 0 0 0 = wz at SF BF ⊢
    have e0 := SF.c0
    have e1 := SF.c1
    have e2 := SF.c2
    have e3 := SF.c3
    have e4 := SF.c4
    exact bodyPost_ret (v := .tuple #[.agg #[.int .i64 0, .int .i64 0, .int .i64 0, .int .i64 0, .int .i64 0], .int .i64 2]) (by simp [results, Try.results14, go_sem, e0, e1, e2, e3, e4]) rfl ⟨rfl, BF⟩
  by_cases h3 : slots ≤ s
  · rw [ad_2 hA (may_not (by omega))]
    clear hA
    go_enter Try.func14, Try.ntmps14
    go_wp2_with fail
    refine (sIsState_any _ _ _ _ _ _).mono ?_
    rintro e w1 ⟨rfl, b1⟩
    rw [HA.out]
    obtain ⟨S1, S2⟩ := state_new2 b1
    have HZ := Lib.hid b1; clear b1
    have d2 := S1.c2
    have d3 := S1.c3
    have c0 := S2.c0
    have c1 := S2.c1
    have c2 := S2.c2
    have c3 := S2.c3
    have c4 := S2.c4
    have f0 := S2.f 0
    have f1 := S2.f 1
    have f2 := S2.f 2
    have f3 := S2.f 3
    have f4 := S2.f 4
    have HS := Lib.hid S2; clear S1 S2
    go_wp2_with (go_at_call 35; refine (l01In_any _ _ _ _).mono ?_; rintro e w' ⟨rfl, rfl⟩)
    clear c0 c1 c2 c3 c4 f0 f1 f2 f3 f4 d2 d3
    change bodyPost _ _ _ _ _ (setFive w1 (w.heap.size + 1) 0 0 0 0 0)
    have SF := StateAt.five (HS.out) 0 0 0 0 0
    have BF := below_two' (below_box2 HZ.out) (below_five (B := w.heap.size) (w := w1) (b := w.heap.size + 1) (by omega) 0 0 0 0 0)
    generalize setFive w1 (w.heap.size + 1) 0 0 0 0 0 = wz at SF BF ⊢
    have e0 := SF.c0
    have e1 := SF.c1
    have e2 := SF.c2
    have e3 := SF.c3
    have e4 := SF.c4
    exact bodyPost_ret (v := .tuple #[.agg #[.int .i64 0, .int .i64 0, .int .i64 0, .int .i64 0, .int .i64 0], .int .i64 2]) (by simp [results, Try.results14, go_sem, e0, e1, e2, e3, e4]) rfl ⟨rfl, BF⟩
  by_cases h4 : rounds ≤ r
  · rw [ad_2 hA (may_not (by omega))]
    clear hA
    go_enter Try.func14, Try.ntmps14
    go_wp2_with fail
    refine (sIsState_any _ _ _ _ _ _).mono ?_
    rintro e w1 ⟨rfl, b1⟩
    rw [HA.out]
    obtain ⟨S1, S2⟩ := state_new2 b1
    have HZ := Lib.hid b1; clear b1
    have d2 := S1.c2
    have d3 := S1.c3
    have c0 := S2.c0
    have c1 := S2.c1
    have c2 := S2.c2
    have c3 := S2.c3
    have c4 := S2.c4
    have f0 := S2.f 0
    have f1 := S2.f 1
    have f2 := S2.f 2
    have f3 := S2.f 3
    have f4 := S2.f 4
    have HS := Lib.hid S2; clear S1 S2
    go_wp2_with (go_at_call 35; refine (l01In_any _ _ _ _).mono ?_; rintro e w' ⟨rfl, rfl⟩)
    clear c0 c1 c2 c3 c4 f0 f1 f2 f3 f4 d2 d3
    change bodyPost _ _ _ _ _ (setFive w1 (w.heap.size + 1) 0 0 0 0 0)
    have SF := StateAt.five (HS.out) 0 0 0 0 0
    have BF := below_two' (below_box2 HZ.out) (below_five (B := w.heap.size) (w := w1) (b := w.heap.size + 1) (by omega) 0 0 0 0 0)
    generalize setFive w1 (w.heap.size + 1) 0 0 0 0 0 = wz at SF BF ⊢
    have e0 := SF.c0
    have e1 := SF.c1
    have e2 := SF.c2
    have e3 := SF.c3
    have e4 := SF.c4
    exact bodyPost_ret (v := .tuple #[.agg #[.int .i64 0, .int .i64 0, .int .i64 0, .int .i64 0, .int .i64 0], .int .i64 2]) (by simp [results, Try.results14, go_sem, e0, e1, e2, e3, e4]) rfl ⟨rfl, BF⟩
  have i0 := in_iff.1 h0
  have i1 := in_iff.1 h1
  have i2 := in_iff.1 h2
  have hgood := fun w => l04Advance_any (d := d) (slots := slots) (rounds := rounds) hA i0 (by omega) (by omega) i1.2 i2.2 w
  rw [ad_0 hA (may_iff.2 ⟨i0, i1, i2, by omega, by omega⟩)]
  have HG := Lib.hid hgood
  clear hA hgood i0 i1 i2
  go_enter Try.func14, Try.ntmps14
  go_wp2_with fail
  refine (sIsState_any _ _ _ _ _ _).mono ?_
  rintro e w1 ⟨rfl, b1⟩
  rw [HA.out]
  obtain ⟨S1, S2⟩ := state_new2 b1
  have HZ := Lib.hid b1; clear b1
  have d0 := S1.c0
  have d1 := S1.c1
  have d2 := S1.c2
  have d3 := S1.c3
  have d4 := S1.c4
  have HS := Lib.hid S2; clear S1 S2
  go_wp2_with (first | (go_at_call 35; refine (l01In_any _ _ _ _).mono ?_; rintro e w' ⟨rfl, rfl⟩) | (go_at_call 36; fail))
  clear d0 d1 d2 d3 d4
  refine (HG.out _).mono ?_
  rintro e w2 ⟨rfl, b2⟩
  have hlt : w.heap.size + 1 < w1.heap.size := by have := HS.out.lt; omega
  have Z1 := HS.out.below b2 hlt
  have B1 := (below_box2 HZ.out).trans (b2.mono (by omega))
  clear hlt b2
  obtain ⟨⟨x, y⟩, hst⟩ : ∃ q, stepRS slots rounds r s = q := ⟨_, rfl⟩
  rw [hst]
  have HST := Lib.hid hst; clear hst
  simp only

  have c0 := Z1.c0
  have c1 := Z1.c1
  have c2 := Z1.c2
  have c3 := Z1.c3
  have c4 := Z1.c4
  have f0 := Z1.f 0
  have f1 := Z1.f 1
  have f2 := Z1.f 2
  have f3 := Z1.f 3
  have f4 := Z1.f 4
  go_wp2_with fail
  clear c0 c1 c2 c3 c4 f0 f1 f2 f3 f4
  change bodyPost _ _ _ _ _ (setFive w2 (w.heap.size + 1) ((t + d) % 65536) m x y k)
  have SF := StateAt.five (Z1) ((t + d) % 65536) m x y k
  have BF := below_two' (B1) (below_five (B := w.heap.size) (w := w2) (b := w.heap.size + 1) (by omega) ((t + d) % 65536) m x y k)
  generalize setFive w2 (w.heap.size + 1) ((t + d) % 65536) m x y k = wz at SF BF ⊢
  have e0 := SF.c0
  have e1 := SF.c1
  have e2 := SF.c2
  have e3 := SF.c3
  have e4 := SF.c4
  exact bodyPost_ret (v := .tuple #[.agg #[.int .i64 ((t + d) % 65536), .int .i64 m, .int .i64 x, .int .i64 y, .int .i64 k], .int .i64 0]) (by simp [results, Try.results14, go_sem, e0, e1, e2, e3, e4]) rfl ⟨by simp only [HST.out], BF⟩
end Go.Proofs.Ytenlfonekcpblaa
