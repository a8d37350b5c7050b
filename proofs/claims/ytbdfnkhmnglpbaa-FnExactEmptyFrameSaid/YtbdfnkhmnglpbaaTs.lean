/-
  The number of cells of a transmission: the program's TransmissionSize (chapter 18), which chapter 8 asks too.
-/
import Derived.Test.YtbdfnkhmnglpbaaTs0
import Derived.Test.YtbdfnkhmnglpbaaOne
namespace Go.Proofs.Ytbdfnkhmnglpbaa
open Go.RowKit

theorem isPre_yes {p : Int} (h0 : 3 ≤ p) (h1 : p ≤ 15) : isPre p = true := isPre_iff.2 ⟨h0, h1⟩
theorem isPre_low {p : Int} (h : p < 3) : isPre p = false := by unfold isPre; rw [decide_eq_false (by omega)]; rfl
theorem isPre_high {p : Int} (h : 15 < p) : isPre p = false := by unfold isPre; rw [decide_eq_false (p := p ≤ 15) (by omega), Bool.and_false]
theorem isPreamble_any (p : Int) (w : World) : Calls Try.prog 148 #[.int .i64 p] w fun e w' => e = .returned (.bool (isPre p)) ∧ w = w' := by
  by_cases h0 : 3 ≤ p
  · by_cases h1 : p ≤ 15
    · rw [isPre_yes h0 h1]
      go_enter Try.func148, Try.ntmps148
      go_wp2
      go_ret
      exact ⟨rfl, rfl⟩
    · rw [isPre_high (by omega)]
      go_enter Try.func148, Try.ntmps148
      go_wp2
      go_ret
      exact ⟨rfl, rfl⟩
  · rw [isPre_low (by omega)]
    go_enter Try.func148, Try.ntmps148
    go_wp2
    go_ret
    exact ⟨rfl, rfl⟩
theorem ts_n {n p : Int} (h : n < 0 ∨ 1024 < n) : transmissionSize n p = (0, 2) := by unfold transmissionSize; rw [if_neg (by omega)]
theorem ts_p {n p : Int} (h : isPre p = false) : transmissionSize n p = (0, 2) := by unfold transmissionSize; rw [if_neg (by rw [h]; simp)]
theorem ts_0 {n p : Int} (h0 : 0 ≤ n) (h1 : n ≤ 1024) (h : isPre p = true) : transmissionSize n p = (p + 3 + 10 * n, 0) := by unfold transmissionSize; rw [if_pos ⟨⟨h0, h1⟩, h⟩]
theorem transmissionSize_any (n p : Int) (w : World) : Calls Try.prog 108 #[.int .i64 n, .int .i64 p] w fun e w' => e = .returned (.tuple #[.int .i64 (transmissionSize n p).1, .int .i64 (transmissionSize n p).2]) ∧ w = w' := by
  by_cases h0 : n < 0
  · rw [ts_n (.inl h0)]
    go_enter Try.func108, Try.ntmps108
    go_wp2
    go_ret2
    exact ⟨rfl, rfl⟩
  by_cases h1 : 1024 < n
  · rw [ts_n (.inr h1)]
    go_enter Try.func108, Try.ntmps108
    go_wp2
    go_ret2
    exact ⟨rfl, rfl⟩
  rcases hp : isPre p with _ | _
  · rw [ts_p hp]
    have HP := Lib.hid hp; clear hp
    go_enter Try.func108, Try.ntmps108
    go_wp2_with (go_at_call 148; refine (isPreamble_any _ _).mono ?_; rintro e w' ⟨rfl, rfl⟩; rw [HP.out])
    go_ret2
    exact ⟨rfl, rfl⟩
  · obtain ⟨p0, p1⟩ := isPre_iff.1 hp
    rw [ts_0 (by omega) (by omega) hp]
    have HP := Lib.hid hp; clear hp
    have e : p + 3 + 10 * n = p + 1 + 10 * n + 2 := by omega
    rw [e]; clear e
    go_enter Try.func108, Try.ntmps108
    go_wp2_with (go_at_call 148; refine (isPreamble_any _ _).mono ?_; rintro e w' ⟨rfl, rfl⟩; rw [HP.out])
    go_ret2
    exact ⟨rfl, rfl⟩
end Go.Proofs.Ytbdfnkhmnglpbaa
