/-
  Chapter 9, the model: images.
-/
import Derived.Test.YtljdkckoelgkbaaK5
namespace Go.Proofs.Ytljdkckoelgkbaa
open Go.RowKit

/-- The first k blocks of an image. -/
def imgTo (xs : List Int) (k : Nat) : List Int := (List.range k).flatMap (blockOf xs)
theorem imgTo_succ (xs : List Int) (k : Nat) : imgTo xs (k + 1) = imgTo xs k ++ (headOf xs k ++ three (checkOf k (headOf xs k))) := by
  unfold imgTo
  rw [List.range_succ, List.flatMap_append]
  simp [blockOf]
theorem imgTo_len (xs : List Int) (k : Nat) : (imgTo xs k).length ≤ 33 * k := by
  induction k with
  | zero => simp [imgTo]
  | succ k ih =>
    have h := block_le xs k
    have e : imgTo xs (k + 1) = imgTo xs k ++ blockOf xs k := imgTo_succ xs k
    rw [e, List.length_append]
    omega
theorem imgTo_all (xs : List Int) : imgTo xs (blocksOf xs.length) = image9 xs := rfl
theorem head_bytes {xs : List Int} (hb : isBytes xs = true) (_hn : xs.length ≤ 868) {k : Nat} (hk : k ≤ 31) : isBytes (headOf xs k) = true := by
  have hp := part_len xs k
  refine isBytes_iff.2 ⟨by rw [head_len, hp]; omega, fun x hx => ?_⟩
  unfold headOf at hx
  rw [List.mem_append] at hx
  rcases hx with hx | hx
  · rcases List.mem_cons.1 hx with rfl | hx
    · omega
    · rw [List.mem_singleton.1 hx]
      split <;> omega
  · exact (isBytes_iff.1 hb).2 x (List.mem_of_mem_drop (List.mem_of_mem_take hx))
end Go.Proofs.Ytljdkckoelgkbaa
