/-
  What FnStateDistances says, as plain facts on numbers.
-/
import Derived.Test.YtenlfonekcpblaaC4h
namespace Go.Proofs.Ytenlfonekcpblaa

theorem bitDist_sym (t m r s k t' m' r' s' k' : Int) : bitDist t m r s k t' m' r' s' k' = bitDist t' m' r' s' k' t m r s k := by
  unfold bitDist; rw [diffTo_sym]
theorem bitDist_zero {t m r s k t' m' r' s' k' : Int} (h : isState t m r s k = true) (h' : isState t' m' r' s' k' = true) : bitDist t m r s k t' m' r' s' k' = 0 ↔ t = t' ∧ m = m' ∧ r = r' ∧ s = s' ∧ k = k' := by
  have h1 := diffTo_zero (xs := stateBits t m r s k) (ys := stateBits t' m' r' s' k') (by rw [stateBits_len, stateBits_len])
  rw [stateBits_len] at h1
  unfold bitDist
  rw [h1]
  constructor
  · exact stateBits_inj h h'
  · rintro ⟨rfl, rfl, rfl, rfl, rfl⟩; rfl
theorem dist_valid {t m r s k t' m' r' s' k' d : Int} (h : distOf t m r s k t' m' r' s' k' = (d, 0)) : isState t m r s k = true ∧ isState t' m' r' s' k' = true := by
  rcases hA : isState t m r s k with _ | _
  · rw [di_1 hA] at h; simp at h
  · rcases hB : isState t' m' r' s' k' with _ | _
    · rw [di_2 hB] at h; simp at h
    · exact ⟨rfl, rfl⟩
theorem dist_back {t m r s k t' m' r' s' k' d : Int} (h : distOf t m r s k t' m' r' s' k' = (d, 0)) : distOf t' m' r' s' k' t m r s k = (d, 0) := by
  obtain ⟨hA, hB⟩ := dist_valid h
  rw [di_0 hA hB] at h
  rw [di_0 hB hA, bitDist_sym]
  exact h
theorem dist_zero {t m r s k t' m' r' s' k' d : Int} (h : distOf t m r s k t' m' r' s' k' = (d, 0)) : (d == 0) = decide (t = t' ∧ m = m' ∧ r = r' ∧ s = s' ∧ k = k') := by
  obtain ⟨hA, hB⟩ := dist_valid h
  rw [di_0 hA hB] at h
  have hd : (bitDist t m r s k t' m' r' s' k' : Int) = d := congrArg Prod.fst h
  rw [Bool.eq_iff_iff, decide_eq_true_eq, ← bitDist_zero hA hB, ← hd, beq_iff_eq]
  omega
theorem time_back {t m r s k t' m' r' s' k' d : Int} (h : distOf t m r s k t' m' r' s' k' = (d, 0)) :
    ∃ x y, timeOf t m r s k t' m' r' s' k' = (x, 0) ∧ timeOf t' m' r' s' k' t m r s k = (y, 0) ∧ -32768 ≤ x ∧ x ≤ 32767 ∧ (x = -32768 ∧ y = -32768 ∨ x ≠ -32768 ∧ y = -x) := by
  obtain ⟨hA, hB⟩ := dist_valid h
  have r1 := time_range t t'
  have r2 := time_range t' t
  have r3 := time_sign t t'
  exact ⟨_, _, to_0 hA hB, to_0 hB hA, r1.1, r1.2, by omega⟩
end Go.Proofs.Ytenlfonekcpblaa
