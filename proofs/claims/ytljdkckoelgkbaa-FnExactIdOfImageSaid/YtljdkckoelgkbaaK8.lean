/-
  Chapter 9: a block of the program: an array of 33 numbers and a size; its bytes as a list; bytes that are added.
-/
import Derived.Test.YtljdkckoelgkbaaK3
import Derived.Test.YtljdkckoelgkbaaVecs
import Derived.Laws.CopyOwn
import Derived.Deep.RegionLaw
namespace Go.Proofs.Ytljdkckoelgkbaa
open Go.RowKit

/-- The 34 cells of a block that holds the bytes xs. -/
def blk (xs : List Int) : List Int := xs ++ (List.replicate (33 - xs.length) 0 ++ [(xs.length : Int)])
theorem blk_len {xs : List Int} (h : xs.length ≤ 33) : (blk xs).length = 34 := by unfold blk; simp; omega
theorem blk_at {xs : List Int} {i : Nat} (h : i < xs.length) : (blk xs).getD i 0 = xs.getD i 0 := by
  unfold blk
  simp [List.getD, List.getElem?_append_left h]
theorem blk_size {xs : List Int} (h : xs.length ≤ 33) : (blk xs).getD 33 0 = xs.length := by
  unfold blk
  simp only [List.getD]
  rw [List.getElem?_append_right h, List.getElem?_append_right (by simp)]
  simp
theorem blk_add {xs ys : List Int} (h : xs.length + ys.length ≤ 33) : (splice (blk xs) xs.length ys).set 33 ((xs.length + ys.length : Nat) : Int) = blk (xs ++ ys) := by
  have e : splice (blk xs) xs.length ys = (xs ++ ys) ++ (List.replicate (33 - (xs.length + ys.length)) 0 ++ [(xs.length : Int)]) := by
    unfold splice blk
    rw [List.take_left' rfl, List.append_assoc]
    congr 2
    rw [List.drop_append]
    rw [List.drop_eq_nil_of_le (by omega), List.nil_append, Nat.add_sub_cancel_left, List.drop_append, List.length_replicate, List.drop_replicate]
    rw [show ys.length - (33 - xs.length) = 0 from by omega, List.drop_zero]
    congr 2
    omega
  rw [e]
  unfold blk
  rw [List.length_append]
  rw [List.set_append_right _ _ (by rw [List.length_append]; exact h), List.set_append_right _ _ (by rw [List.length_replicate, List.length_append]; omega)]
  congr 2
  rw [List.length_append, List.length_replicate, show 33 - (xs.length + ys.length) - (33 - (xs.length + ys.length)) = 0 from by omega]
  rfl
section
variable {b : Nat} {w w' : World} {xs : List Int}
end
theorem size64 : (Try.prog.info? 2).map (·.size) = some 1 := by kernel_rfl
end Go.Proofs.Ytljdkckoelgkbaa
