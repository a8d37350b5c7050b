/-
  Chapter 9: lengths of what is handed back.
-/
import Derived.Test.YtckaknaeddiphaaKE
namespace Go.Proofs.Ytckaknaeddiphaa
open Go.RowKit

theorem imageOf_len (xs : List Int) : (imageOf xs).1.length ≤ 1048576 := by
  unfold imageOf
  split
  · simp
  · split
    · simp
    · have h := image_len xs
      have h31 := blocks_31 (n := xs.length) (by omega)
      dsimp only
      omega
theorem dataOfImage_len (xs : List Int) : (dataOfImage xs).1.length ≤ 1048576 := by
  unfold dataOfImage
  split
  · simp
  · split
    · simp
    · split
      · rename_i h
        dsimp only
        omega
      · simp
theorem damagedBlocks_len (xs : List Int) : (damagedBlocks xs).1.length ≤ 1048576 := by
  rcases hb : isBytes xs with _ | _
  · unfold damagedBlocks; rw [hb]; simp
  · rw [show damagedBlocks xs = (dmgTo xs (slicesOf xs.length), 0) from by unfold damagedBlocks; rw [if_neg (by rw [hb]; simp), dmgTo_all]]
    have h := dmgTo_len xs (slicesOf xs.length)
    have hn := (isBytes_iff.1 hb).1
    have h2 : slicesOf xs.length ≤ 33 := by unfold slicesOf; omega
    dsimp only
    omega
theorem blockAt_len (xs : List Int) (k : Int) : (blockAt xs k).1.length ≤ 1048576 := by
  unfold blockAt
  split
  · simp
  · split
    · have h := slice_len xs k.toNat
      dsimp only
      omega
    · simp
end Go.Proofs.Ytckaknaeddiphaa
