/-
  Chapter 4: TimeBetween on both sides.
-/
import Derived.Test.YtenlfonekcpblaaC4a
import Derived.Deep.RegionHeld3
import Derived.Deep.DeepCutAuto
namespace Go.Proofs.Ytenlfonekcpblaa
open Go.RowKit

/-- What TimeBetween answers. -/
def timeOf (t m r s k t' m' r' s' k' : Int) : Int × Int := if isState t m r s k = false ∨ isState t' m' r' s' k' = false then (0, 1) else (timeBetween t t', 0)
theorem to_1 {t m r s k t' m' r' s' k' : Int} (h : isState t m r s k = false) : timeOf t m r s k t' m' r' s' k' = (0, 1) := by simp [timeOf, h]
theorem to_2 {t m r s k t' m' r' s' k' : Int} (h : isState t' m' r' s' k' = false) : timeOf t m r s k t' m' r' s' k' = (0, 1) := by simp [timeOf, h]
theorem to_0 {t m r s k t' m' r' s' k' : Int} (h : isState t m r s k = true) (h' : isState t' m' r' s' k' = true) : timeOf t m r s k t' m' r' s' k' = (timeBetween t t', 0) := by simp [timeOf, h, h']
theorem wrap_i16 (n : Int) : IntKind.i16.wrap n = (n + 32768) % 65536 - 32768 := by
  simp [IntKind.wrap, IntKind.signed, IntKind.bits]
  omega
theorem time_wrap {t t' : Int} (_h0 : 0 ≤ t) (_h1 : t ≤ 65535) (_h2 : 0 ≤ t') (_h3 : t' ≤ 65535) : IntKind.i16.wrap (t' - t) = timeBetween t t' := by
  rw [wrap_i16]
  unfold timeBetween
  split <;> omega
theorem ret_two {a b c d : Int} (h : a = b) (k : c = d) : Ending.returned (.tuple #[.int .i64 a, .int .i64 c]) = .returned (.tuple #[.int .i64 b, .int .i64 d]) := by rw [h, k]
def TimeLeft (w : World) (q : Int × Int) (e : Ending) (w' : World) : Prop := e = .returned (.tuple #[.int .i64 q.1, .int .i64 q.2]) ∧ Below w.heap.size w w'
theorem timeBetween_any (t m r s k t' m' r' s' k' : Int) (w : World) :
    Calls Try.prog 15 #[.agg #[.int .i64 t, .int .i64 m, .int .i64 r, .int .i64 s, .int .i64 k], .agg #[.int .i64 t', .int .i64 m', .int .i64 r', .int .i64 s', .int .i64 k']] w (TimeLeft w (timeOf t m r s k t' m' r' s' k')) := by
  rcases hA : isState t m r s k with _ | _
  · rw [to_1 hA]
    have HA := Lib.hid hA; clear hA
    go_enter Try.func15, Try.ntmps15
    go_wp2_with fail
    refine (isState_any _ _ _ _ _ _).mono ?_
    rintro e w1 ⟨rfl, b1⟩
    rw [HA.out]
    go_wp2
    go_ret2
    exact ⟨rfl, below_box2 b1⟩
  rcases hB : isState t' m' r' s' k' with _ | _
  · rw [to_2 hB]
    have HA := Lib.hid hA; clear hA
    have HB := Lib.hid hB; clear hB
    go_enter Try.func15, Try.ntmps15
    go_wp2_with fail
    refine (isState_any _ _ _ _ _ _).mono ?_
    rintro e w1 ⟨rfl, b1⟩
    rw [HA.out]
    obtain ⟨S1, S2⟩ := state_new2 b1
    have c0 := S2.c0
    have c1 := S2.c1
    have c2 := S2.c2
    have c3 := S2.c3
    have c4 := S2.c4
    have HZ := Lib.hid b1
    clear S1 S2 b1
    go_wp2_with fail
    clear c0 c1 c2 c3 c4
    refine (isState_any _ _ _ _ _ _).mono ?_
    rintro e w2 ⟨rfl, b2⟩
    rw [HB.out]
    go_wp2
    go_ret2
    exact ⟨rfl, below_box2 (below_two HZ.out b2)⟩
  · rw [to_0 hA hB]
    obtain ⟨⟨a0, a1⟩, -⟩ := isState_iff.1 hA
    obtain ⟨⟨a2, a3⟩, -⟩ := isState_iff.1 hB
    have hw := time_wrap a0 a1 a2 a3
    obtain ⟨q0, q1⟩ := time_range t t'
    obtain ⟨q, hq⟩ : ∃ q, timeBetween t t' = q := ⟨_, rfl⟩
    rw [hq] at hw q0 q1 ⊢
    clear hq
    have HA := Lib.hid hA; clear hA
    have HB := Lib.hid hB; clear hB
    go_enter Try.func15, Try.ntmps15
    go_wp2_with fail
    refine (isState_any _ _ _ _ _ _).mono ?_
    rintro e w1 ⟨rfl, b1⟩
    rw [HA.out]
    obtain ⟨S1, S2⟩ := state_new2 b1
    have c0 := S2.c0
    have c1 := S2.c1
    have c2 := S2.c2
    have c3 := S2.c3
    have c4 := S2.c4
    have HZ := Lib.hid b1
    clear S1 S2 b1
    go_wp2_with fail
    clear c0 c1 c2 c3 c4
    refine (isState_any _ _ _ _ _ _).mono ?_
    rintro e w2 ⟨rfl, b2⟩
    rw [HB.out]
    have HZ2 := Lib.hid (below_two HZ.out b2)
    clear b2 HZ
    obtain ⟨S1, S2⟩ := state_new2 HZ2.out
    have c0 := S1.c0
    have c1 := S2.c0
    clear S1 S2
    go_wp2
    go_ret2
    exact ⟨rfl, below_box2 HZ2.out⟩
theorem sTimeBetween_any (t m r s k t' m' r' s' k' : Int) (w : World) :
    Calls Try.prog 19 #[.agg #[.int .i64 t, .int .i64 m, .int .i64 r, .int .i64 s, .int .i64 k], .agg #[.int .i64 t', .int .i64 m', .int .i64 r', .int .i64 s', .int .i64 k']] w (TimeLeft w (timeOf t m r s k t' m' r' s' k')) := by
  rcases hA : isState t m r s k with _ | _
  · rw [to_1 hA]
    have HA := Lib.hid hA; clear hA
    go_enter Try.func19, Try.ntmps19
    go_wp2_with fail
    refine (sIsState_any _ _ _ _ _ _).mono ?_
    rintro e w1 ⟨rfl, b1⟩
    rw [HA.out]
    go_wp2
    go_ret2
    exact ⟨rfl, below_box2 b1⟩
  rcases hB : isState t' m' r' s' k' with _ | _
  · rw [to_2 hB]
    have HA := Lib.hid hA; clear hA
    have HB := Lib.hid hB; clear hB
    go_enter Try.func19, Try.ntmps19
    go_wp2_with fail
    refine (sIsState_any _ _ _ _ _ _).mono ?_
    rintro e w1 ⟨rfl, b1⟩
    rw [HA.out]
    obtain ⟨S1, S2⟩ := state_new2 b1
    have c0 := S2.c0
    have c1 := S2.c1
    have c2 := S2.c2
    have c3 := S2.c3
    have c4 := S2.c4
    have HZ := Lib.hid b1
    clear S1 S2 b1
    go_wp2_with fail
    clear c0 c1 c2 c3 c4
    refine (sIsState_any _ _ _ _ _ _).mono ?_
    rintro e w2 ⟨rfl, b2⟩
    rw [HB.out]
    go_wp2
    go_ret2
    exact ⟨rfl, below_box2 (below_two HZ.out b2)⟩
  · rw [to_0 hA hB]
    obtain ⟨⟨a0, a1⟩, -⟩ := isState_iff.1 hA
    obtain ⟨⟨a2, a3⟩, -⟩ := isState_iff.1 hB
    have HA := Lib.hid hA; clear hA
    have HB := Lib.hid hB; clear hB
    obtain ⟨q, hq, hq2⟩ : ∃ q, timeBetween t t' = q ∧ (if 32767 < (t' - t + 65536) % 65536 then (t' - t + 65536) % 65536 - 65536 else (t' - t + 65536) % 65536) = q := ⟨_, rfl, rfl⟩
    rw [hq]
    have e0 : t' - t + 65536 = t' - t + 65535 + 1 := by omega
    rw [e0] at hq2
    have HQ' := Lib.hid hq2; clear hq2 hq e0
    by_cases hb : 32767 < (t' - t + 65535 + 1) % 65536
    · have HF := Lib.hid (show (t' - t + 65535 + 1) % 65536 - 65536 = q by have := HQ'.out; rwa [if_pos hb] at this)
      clear HQ'
      go_enter Try.func19, Try.ntmps19
      go_wp2_with fail
      refine (sIsState_any _ _ _ _ _ _).mono ?_
      rintro e w1 ⟨rfl, b1⟩
      rw [HA.out]
      obtain ⟨S1, S2⟩ := state_new2 b1
      have c0 := S2.c0
      have c1 := S2.c1
      have c2 := S2.c2
      have c3 := S2.c3
      have c4 := S2.c4
      have HZ := Lib.hid b1
      clear S1 S2 b1
      go_wp2_with fail
      clear c0 c1 c2 c3 c4
      refine (sIsState_any _ _ _ _ _ _).mono ?_
      rintro e w2 ⟨rfl, b2⟩
      rw [HB.out]
      have HZ2 := Lib.hid (below_two HZ.out b2)
      clear b2 HZ
      obtain ⟨S1, S2⟩ := state_new2 HZ2.out
      have c0 := S1.c0
      have c1 := S2.c0
      clear S1 S2
      go_wp2
      go_ret2
      exact ⟨ret_two (by have := HF.out; omega) rfl, below_box2 HZ2.out⟩
    · have HF := Lib.hid (show (t' - t + 65535 + 1) % 65536 = q by have := HQ'.out; rwa [if_neg hb] at this)
      clear HQ'
      go_enter Try.func19, Try.ntmps19
      go_wp2_with fail
      refine (sIsState_any _ _ _ _ _ _).mono ?_
      rintro e w1 ⟨rfl, b1⟩
      rw [HA.out]
      obtain ⟨S1, S2⟩ := state_new2 b1
      have c0 := S2.c0
      have c1 := S2.c1
      have c2 := S2.c2
      have c3 := S2.c3
      have c4 := S2.c4
      have HZ := Lib.hid b1
      clear S1 S2 b1
      go_wp2_with fail
      clear c0 c1 c2 c3 c4
      refine (sIsState_any _ _ _ _ _ _).mono ?_
      rintro e w2 ⟨rfl, b2⟩
      rw [HB.out]
      have HZ2 := Lib.hid (below_two HZ.out b2)
      clear b2 HZ
      obtain ⟨S1, S2⟩ := state_new2 HZ2.out
      have c0 := S1.c0
      have c1 := S2.c0
      clear S1 S2
      go_wp2
      go_ret2
      exact ⟨ret_two HF.out rfl, below_box2 HZ2.out⟩
end Go.Proofs.Ytenlfonekcpblaa
