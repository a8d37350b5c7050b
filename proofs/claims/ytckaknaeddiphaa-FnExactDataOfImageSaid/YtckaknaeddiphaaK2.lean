/-
  Chapter 9: numbers of blocks and of bytes; check numbers of blocks; slices that are whole.
-/
import Derived.Test.YtckaknaeddiphaaBk
import Derived.Test.YtckaknaeddiphaaThree
import Derived.Test.YtckaknaeddiphaaSame
import Derived.Test.YtckaknaeddiphaaIn
namespace Go.Proofs.Ytckaknaeddiphaa
open Go.RowKit

/-! ### numbers of blocks and of bytes -/
theorem blockCount_any (n : Nat) (w : World) (hn : n ≤ 1048576) : Calls Try.prog 42 #[.int .i64 n] w fun e w' => e = .returned (.int .i64 (blocksOf n)) ∧ w = w' := by
  by_cases h0 : n = 0
  · subst h0
    go_enter Try.func42, Try.ntmps42
    go_wp2
    go_ret
    exact ⟨rfl, rfl⟩
  · obtain ⟨q, hq⟩ : ∃ q, (n + 27) / 28 = q := ⟨_, rfl⟩
    have hd2 : ((n : Int) + 28 - 1) / 28 = (q : Int) := by omega
    have h1 : (1 : Int) ≤ (q : Int) := by omega
    have he : blocksOf n = q := by unfold blocksOf; omega
    have HE := Lib.hid he; clear he hq
    go_enter Try.func42, Try.ntmps42
    go_wp2
    all_goals
      go_ret
      exact ⟨ret_int (by have := HE.out; omega), rfl⟩
theorem imageSize_any (n : Int) (w : World) : Calls Try.prog 15 #[.int .i64 n] w fun e w' => e = .returned (.tuple #[.int .i64 (imageSize n).1, .int .i64 (imageSize n).2]) ∧ w = w' := by
  by_cases h0 : n < 0
  · rw [show imageSize n = (0, 2) from by unfold imageSize; rw [if_neg (by rw [inRange_iff]; omega)]]
    go_enter Try.func15, Try.ntmps15
    go_wp2
    go_ret2
    exact ⟨rfl, rfl⟩
  · by_cases h1 : 868 < n
    · rw [show imageSize n = (0, 2) from by unfold imageSize; rw [if_neg (by rw [inRange_iff]; omega)]]
      go_enter Try.func15, Try.ntmps15
      go_wp2
      go_ret2
      exact ⟨rfl, rfl⟩
    · obtain ⟨m, rfl⟩ : ∃ m : Nat, n = m := ⟨n.toNat, by omega⟩
      rw [show imageSize (m : Int) = ((m : Int) + 5 * (blocksOf m : Int), 0) from by unfold imageSize; rw [if_pos (by rw [inRange_iff]; omega)]; simp]
      have hb := blocks_31 (n := m) (by omega)
      have hc := fun W => blockCount_any m W (by omega)
      generalize blocksOf m = q at hb hc ⊢
      go_enter Try.func15, Try.ntmps15
      go_wp2_with fail
      refine (hc _).mono ?_
      rintro e w' ⟨rfl, rfl⟩
      go_wp2
      go_ret2
      exact ⟨rfl, rfl⟩
theorem l09Fits_any (n : Int) (w : World) : Calls Try.prog 38 #[.int .i64 n] w fun e w' => e = .returned (.bool (inRange 0 868 n)) ∧ w = w' := by
  go_enter Try.func38, Try.ntmps38
  go_wp2_with fail
  refine (l01In_any _ _ _ _).mono ?_
  rintro e w' ⟨rfl, rfl⟩
  go_wp2
  go_ret
  exact ⟨rfl, rfl⟩
theorem blockOfByte_any (n at_ : Int) (w : World) : Calls Try.prog 22 #[.int .i64 n, .int .i64 at_] w fun e w' => e = .returned (.tuple #[.int .i64 (blockOfByte n at_).1, .int .i64 (blockOfByte n at_).2]) ∧ w = w' := by
  rcases h : inRange 0 868 n with _ | _
  · rw [show blockOfByte n at_ = (0, 2) from by unfold blockOfByte; rw [h]; rfl]
    go_enter Try.func22, Try.ntmps22
    go_wp2_with fail
    refine (imageSize_any _ _).mono ?_
    rintro e w' ⟨rfl, rfl⟩
    rw [show imageSize n = (0, 2) from by unfold imageSize; rw [h]; rfl]
    go_wp2
    go_ret2
    exact ⟨rfl, rfl⟩
  · have h1 := inRange_iff.1 h
    have hs : (imageSize n).2 = 0 := by unfold imageSize; rw [if_pos h]
    by_cases ha : at_ < 0
    · rw [show blockOfByte n at_ = (0, 2) from by unfold blockOfByte; rw [if_neg (by omega)]]
      go_enter Try.func22, Try.ntmps22
      go_wp2_with fail
      refine (imageSize_any _ _).mono ?_
      rintro e w' ⟨rfl, rfl⟩
      rw [hs]
      go_wp2
      go_ret2
      exact ⟨rfl, rfl⟩
    · by_cases hb : n ≤ at_
      · rw [show blockOfByte n at_ = (0, 2) from by unfold blockOfByte; rw [if_neg (by omega)]]
        go_enter Try.func22, Try.ntmps22
        go_wp2_with fail
        refine (imageSize_any _ _).mono ?_
        rintro e w' ⟨rfl, rfl⟩
        rw [hs]
        go_wp2
        go_ret2
        exact ⟨rfl, rfl⟩
      · rw [show blockOfByte n at_ = (at_ / 28, 0) from by unfold blockOfByte; rw [if_pos ⟨h, by omega, by omega⟩]]
        go_enter Try.func22, Try.ntmps22
        go_wp2_with fail
        refine (imageSize_any _ _).mono ?_
        rintro e w' ⟨rfl, rfl⟩
        rw [hs]
        go_wp2
        go_ret2
        exact ⟨rfl, rfl⟩
theorem sBlockOfByte_any (n at_ : Int) (w : World) : Calls Try.prog 23 #[.int .i64 n, .int .i64 at_] w fun e w' => e = .returned (.tuple #[.int .i64 (blockOfByte n at_).1, .int .i64 (blockOfByte n at_).2]) ∧ w = w' := by
  rcases h : inRange 0 868 n with _ | _
  · rw [show blockOfByte n at_ = (0, 2) from by unfold blockOfByte; rw [h]; rfl]
    go_enter Try.func23, Try.ntmps23
    go_wp2_with fail
    refine (l09Fits_any _ _).mono ?_
    rintro e w' ⟨rfl, rfl⟩
    rw [h]
    go_wp2
    go_ret2
    exact ⟨rfl, rfl⟩
  · have h1 := inRange_iff.1 h
    rcases h2 : inRange 0 (n - 1) at_ with _ | _
    · rw [show blockOfByte n at_ = (0, 2) from by unfold blockOfByte; rw [if_neg (by intro h3; rw [inRange_iff.2 ⟨h3.2.1, h3.2.2⟩] at h2; cases h2)]]
      go_enter Try.func23, Try.ntmps23
      go_wp2_with fail
      refine (l09Fits_any _ _).mono ?_
      rintro e w' ⟨rfl, rfl⟩
      rw [h]
      go_wp2_with fail
      refine (l01In_any _ _ _ _).mono ?_
      rintro e w' ⟨rfl, rfl⟩
      rw [h2]
      go_wp2
      go_ret2
      exact ⟨rfl, rfl⟩
    · have h3 := inRange_iff.1 h2
      rw [show blockOfByte n at_ = (at_ / 28, 0) from by unfold blockOfByte; rw [if_pos ⟨h, h3.1, h3.2⟩]]
      go_enter Try.func23, Try.ntmps23
      go_wp2_with fail
      refine (l09Fits_any _ _).mono ?_
      rintro e w' ⟨rfl, rfl⟩
      rw [h]
      go_wp2_with fail
      refine (l01In_any _ _ _ _).mono ?_
      rintro e w' ⟨rfl, rfl⟩
      rw [h2]
      go_wp2
      go_ret2
      exact ⟨rfl, rfl⟩
end Go.Proofs.Ytckaknaeddiphaa
