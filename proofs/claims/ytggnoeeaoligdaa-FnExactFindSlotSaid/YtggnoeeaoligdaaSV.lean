/-
  Over slots: how long the results are.
-/
import Derived.Test.YtggnoeeaoligdaaSU
namespace Go.Proofs.Ytggnoeeaoligdaa
open Go
theorem isSls_le {t : List Sl} (h : isSls t = true) : t.length ≤ 120 := (isSls_iff.1 h).1
theorem slotTableBytes_small (t : List Sl) : (slotTableBytes t).1.length ≤ 1048576 := by
  unfold slotTableBytes
  split
  · rename_i h; have := isSls_le h; rw [slotBytes_len]; omega
  · simp
theorem slotsOfNode_small (t : List Sl) (n : Int) : (slotsOfNode t n).1.length ≤ 1048576 := by
  unfold slotsOfNode
  cases h : isSls t
  · simp
  · have := isSls_le h
    simp only [Bool.true_eq_false, if_false]
    rw [nodeTo_len]
    exact Nat.le_trans (List.length_filter_le _ _) (by omega)
theorem insertSlot_small (t : List Sl) (x : Sl) : (insertSlot t x).1.length ≤ 1048576 := by
  unfold insertSlot
  cases h : isSls t
  · simp
  · have h1 := isSls_le h
    simp only [Bool.true_eq_false, if_false]
    repeat' split
    all_goals first | simp | skip
    have a := List.length_filter_le (fun y => decide (cmpSl y x < 0)) t
    have b := List.length_filter_le (fun y => decide (0 < cmpSl y x)) t
    unfold before behind
    omega
theorem readSlots_small {xs : List Int} {p : List Sl × Nat} (h : readSlots xs = some p) : p.1.length ≤ 1048576 := by
  unfold readSlots at h
  split at h
  · cases h
  · obtain ⟨t, h1, h2⟩ := Option.bind_eq_some_iff.1 h
    split at h2
    · rename_i hc
      cases h2
      have := isSls_le hc
      simp only
      omega
    · cases h2
theorem readSlotTable_small (xs : List Int) : (readSlotTable xs).1.length ≤ 1048576 := by
  unfold readSlotTable
  split
  · simp
  · split
    · simp
    · rename_i p hp
      exact readSlots_small hp
end Go.Proofs.Ytggnoeeaoligdaa
