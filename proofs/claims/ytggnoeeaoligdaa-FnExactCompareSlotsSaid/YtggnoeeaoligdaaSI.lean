/-
  Chapter 12: entries of slot tables: valid, compared; of the program and of the model.
-/
import Derived.Test.YtggnoeeaoligdaaSw
import Derived.Test.YtggnoeeaoligdaaEigA
import Derived.Test.YtggnoeeaoligdaaIn
import Derived.Test.YtggnoeeaoligdaaOneB
import Derived.Deep.RegionHeld3
import Derived.Deep.DeepCutAuto
import Derived.BigQuiet
import Derived.Handy
namespace Go.Proofs.Ytggnoeeaoligdaa
open Go.RowKit

theorem infoSl : (Try.prog.info? 38).map (fun i => (i.zero, i.size, i.bytes)) = some (some (slVal Sl.zero), 8, 64) := by kernel_rfl
theorem sl_no {m r s : Int} {d : Ds} (h : inRange 0 15 m = false ∨ inRange 0 7 r = false ∨ inRange 0 15 s = false ∨ isDesc d = false) : isSl ⟨m, r, s, d⟩ = false := by
  unfold isSl
  rcases h with h | h | h | h <;> simp [h]
theorem sl_yes {m r s : Int} {d : Ds} (h1 : inRange 0 15 m = true) (h2 : inRange 0 7 r = true) (h3 : inRange 0 15 s = true) : isSl ⟨m, r, s, d⟩ = isDesc d := by
  unfold isSl
  simp [h1, h2, h3]
theorem range_no {a b x : Int} (h : ¬ a ≤ x ∨ ¬ x ≤ b) : inRange a b x = false := by
  rw [Bool.eq_false_iff]
  intro hc
  have := inRange_iff.1 hc
  omega
set_option maxRecDepth 100000 in
set_option maxHeartbeats 1000000 in
theorem isSlI_any (x : Sl) (w : World) : Calls Try.prog 86 #[slVal x] w fun e w' => e = .returned (.bool (isSl x)) ∧ Below w.heap.size w w' := by
  obtain ⟨m, r, s, ⟨n, a, z, u, c⟩⟩ := x
  unfold slVal
  dsimp only
  have hb : Below w.heap.size w (w.alloc (.cells #[.int .i64 m, .int .i64 r, .int .i64 s, .int .i64 n, .int .i64 a, .int .i64 z, .int .i64 u, .bool c] 38)) := (Below.refl _ _).alloc (Nat.le_refl _) _
  by_cases h0 : ¬ (0 ≤ m)
  · have HE := Lib.hid (sl_no (d := ⟨n, a, z, u, c⟩) (m := m) (r := r) (s := s) (.inl (range_no (.inl (by omega)))))
    have HB := Lib.hid hb; clear hb
    go_enter Try.func86, Try.ntmps86
    go_wp2
    go_ret
    rw [HE.out]
    exact ⟨rfl, HB.out⟩
  replace h0 := Classical.not_not.1 h0
  by_cases h1 : ¬ (m ≤ 15)
  · have HE := Lib.hid (sl_no (d := ⟨n, a, z, u, c⟩) (m := m) (r := r) (s := s) (.inl (range_no (.inr (by omega)))))
    have HB := Lib.hid hb; clear hb
    go_enter Try.func86, Try.ntmps86
    go_wp2
    go_ret
    rw [HE.out]
    exact ⟨rfl, HB.out⟩
  replace h1 := Classical.not_not.1 h1
  by_cases h2 : ¬ (0 ≤ r)
  · have HE := Lib.hid (sl_no (d := ⟨n, a, z, u, c⟩) (m := m) (r := r) (s := s) (.inr (.inl (range_no (.inl (by omega))))))
    have HB := Lib.hid hb; clear hb
    go_enter Try.func86, Try.ntmps86
    go_wp2
    go_ret
    rw [HE.out]
    exact ⟨rfl, HB.out⟩
  replace h2 := Classical.not_not.1 h2
  by_cases h3 : ¬ (r < 8)
  · have HE := Lib.hid (sl_no (d := ⟨n, a, z, u, c⟩) (m := m) (r := r) (s := s) (.inr (.inl (range_no (.inr (by omega))))))
    have HB := Lib.hid hb; clear hb
    go_enter Try.func86, Try.ntmps86
    go_wp2
    go_ret
    rw [HE.out]
    exact ⟨rfl, HB.out⟩
  replace h3 := Classical.not_not.1 h3
  by_cases h4 : ¬ (0 ≤ s)
  · have HE := Lib.hid (sl_no (d := ⟨n, a, z, u, c⟩) (m := m) (r := r) (s := s) (.inr (.inr (.inl (range_no (.inl (by omega)))))))
    have HB := Lib.hid hb; clear hb
    go_enter Try.func86, Try.ntmps86
    go_wp2
    go_ret
    rw [HE.out]
    exact ⟨rfl, HB.out⟩
  replace h4 := Classical.not_not.1 h4
  by_cases h5 : ¬ (s < 16)
  · have HE := Lib.hid (sl_no (d := ⟨n, a, z, u, c⟩) (m := m) (r := r) (s := s) (.inr (.inr (.inl (range_no (.inr (by omega)))))))
    have HB := Lib.hid hb; clear hb
    go_enter Try.func86, Try.ntmps86
    go_wp2
    go_ret
    rw [HE.out]
    exact ⟨rfl, HB.out⟩
  replace h5 := Classical.not_not.1 h5
  have HE := Lib.hid (sl_yes (m := m) (r := r) (s := s) (d := ⟨n, a, z, u, c⟩) (inRange_iff.2 ⟨h0, h1⟩) (inRange_iff.2 ⟨h2, by omega⟩) (inRange_iff.2 ⟨h4, by omega⟩))
  have HB := Lib.hid hb; clear hb
  go_enter Try.func86, Try.ntmps86
  go_wp2_with (go_at_call 126; refine (isDescriptor_any n a z u c _).mono ?_; rintro e w1 ⟨rfl, b1⟩)
  go_ret
  rw [HE.out]
  exact ⟨rfl, below_two HB.out b1⟩
set_option maxRecDepth 100000 in
set_option maxHeartbeats 1000000 in
theorem isSlS_any (x : Sl) (w : World) : Calls Try.prog 87 #[slVal x] w fun e w' => e = .returned (.bool (isSl x)) ∧ Below w.heap.size w w' := by
  obtain ⟨m, r, s, ⟨n, a, z, u, c⟩⟩ := x
  unfold slVal
  dsimp only
  have hb : Below w.heap.size w (w.alloc (.cells #[.int .i64 m, .int .i64 r, .int .i64 s, .int .i64 n, .int .i64 a, .int .i64 z, .int .i64 u, .bool c] 38)) := (Below.refl _ _).alloc (Nat.le_refl _) _
  have i1 := fun W => l01In_any m 0 15 W
  have i2 := fun W => l01In_any r 0 7 W
  have i3 := fun W => l01In_any s 0 15 W
  rcases h0 : inRange 0 15 m with _ | _
  · have HE := Lib.hid (sl_no (d := ⟨n, a, z, u, c⟩) (m := m) (r := r) (s := s) (.inl h0))
    have HB := Lib.hid hb; clear hb
    rw [h0] at i1
    go_enter Try.func87, Try.ntmps87
    go_wp2_with fail
    refine (i1 _).mono ?_
    rintro e w1 ⟨rfl, rfl⟩
    go_wp2_with fail
    go_ret
    rw [HE.out]
    exact ⟨rfl, HB.out⟩
  rcases h1 : inRange 0 7 r with _ | _
  · have HE := Lib.hid (sl_no (d := ⟨n, a, z, u, c⟩) (m := m) (r := r) (s := s) (.inr (.inl h1)))
    have HB := Lib.hid hb; clear hb
    rw [h0] at i1
    rw [h1] at i2
    go_enter Try.func87, Try.ntmps87
    go_wp2_with fail
    refine (i1 _).mono ?_
    rintro e w1 ⟨rfl, rfl⟩
    go_wp2_with fail
    refine (i2 _).mono ?_
    rintro e w1 ⟨rfl, rfl⟩
    go_wp2_with fail
    go_ret
    rw [HE.out]
    exact ⟨rfl, HB.out⟩
  rcases h2 : inRange 0 15 s with _ | _
  · have HE := Lib.hid (sl_no (d := ⟨n, a, z, u, c⟩) (m := m) (r := r) (s := s) (.inr (.inr (.inl h2))))
    have HB := Lib.hid hb; clear hb
    rw [h0] at i1
    rw [h1] at i2
    rw [h2] at i3
    go_enter Try.func87, Try.ntmps87
    go_wp2_with fail
    refine (i1 _).mono ?_
    rintro e w1 ⟨rfl, rfl⟩
    go_wp2_with fail
    refine (i2 _).mono ?_
    rintro e w1 ⟨rfl, rfl⟩
    go_wp2_with fail
    refine (i3 _).mono ?_
    rintro e w1 ⟨rfl, rfl⟩
    go_wp2_with fail
    go_ret
    rw [HE.out]
    exact ⟨rfl, HB.out⟩
  have HE := Lib.hid (sl_yes (m := m) (r := r) (s := s) (d := ⟨n, a, z, u, c⟩) h0 h1 h2)
  have HB := Lib.hid hb; clear hb
  rw [h0] at i1
  rw [h1] at i2
  rw [h2] at i3
  go_enter Try.func87, Try.ntmps87
  go_wp2_with fail
  refine (i1 _).mono ?_
  rintro e w1 ⟨rfl, rfl⟩
  go_wp2_with fail
  refine (i2 _).mono ?_
  rintro e w1 ⟨rfl, rfl⟩
  go_wp2_with fail
  refine (i3 _).mono ?_
  rintro e w1 ⟨rfl, rfl⟩
  go_wp2_with fail
  refine (sIsDescriptor_any n a z u c _).mono ?_
  rintro e w1 ⟨rfl, b1⟩
  go_wp2_with fail
  go_ret
  rw [HE.out]
  exact ⟨rfl, below_two HB.out b1⟩

/-! ### compared -/
def cmpI (a b : Int) : Int := if a < b then -1 else if b < a then 1 else 0
theorem notNaN_any (a : Int) (w : World) : Calls Try.prog 140 #[.int .i64 a] w fun e w' => e = .returned (.bool false) ∧ w = w' := by
  go_enter Try.func140, Try.ntmps140
  go_wp2
  go_ret
  exact ⟨by simp, rfl⟩
theorem compare_any (a b : Int) (w : World) : Calls Try.prog 95 #[.int .i64 a, .int .i64 b] w fun e w' => e = .returned (.int .i64 (cmpI a b)) ∧ w = w' := by
  unfold cmpI
  by_cases h1 : a < b
  · rw [if_pos h1]
    go_enter Try.func95, Try.ntmps95
    go_wp2_with (go_at_call 140; refine (notNaN_any _ _).mono ?_; rintro e w1 ⟨rfl, rfl⟩)
    go_ret
    exact ⟨rfl, rfl⟩
  · rw [if_neg h1]
    by_cases h2 : b < a
    · rw [if_pos h2]
      go_enter Try.func95, Try.ntmps95
      go_wp2_with (go_at_call 140; refine (notNaN_any _ _).mono ?_; rintro e w1 ⟨rfl, rfl⟩)
      go_ret
      exact ⟨rfl, rfl⟩
    · rw [if_neg h2]
      go_enter Try.func95, Try.ntmps95
      go_wp2_with (go_at_call 140; refine (notNaN_any _ _).mono ?_; rintro e w1 ⟨rfl, rfl⟩)
      go_ret
      exact ⟨rfl, rfl⟩
end Go.Proofs.Ytggnoeeaoligdaa
