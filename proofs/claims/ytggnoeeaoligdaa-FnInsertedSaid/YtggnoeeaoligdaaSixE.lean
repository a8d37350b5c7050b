/-
  Chapter 6: readBody, and what stands in memory while a frame is read.
  Chapter 6: readBody as a whole.
  Chapter 6: FrameFromBody of the program.
-/
import Derived.Test.YtggnoeeaoligdaaSixD
import Derived.Deep.RegionHeld3
namespace Go.Proofs.Ytggnoeeaoligdaa
section
open Go.RowKit

section
variable {w wi wj : World} {a q t m r s k : Int} {v : Value} {xs : List Int}
end
theorem head_and (h : Int) : bits .and .i64 (h / 8) 7 = h / 8 % 8 := by
  have h2 : (BitVec.ofInt 64 7).toNat = 2 ^ 3 - 1 := by decide
  have key : (BitVec.ofInt 64 (h / 8) &&& BitVec.ofInt 64 7).toNat = ((h / 8) % ((2 ^ 64 : Nat) : Int)).toNat % 2 ^ 3 := by
    rw [BitVec.toNat_and, BitVec.toNat_ofInt, h2, Nat.and_two_pow_sub_one_eq_mod]
  show IntKind.i64.wrap ((BitVec.ofInt 64 (h / 8) &&& BitVec.ofInt 64 7).toNat : Nat) = h / 8 % 8
  rw [key, IntKind.wrap_i64]
  omega

end

section
open Go.RowKit

theorem rd_partB {w : World} {b off f l : Nat} {ys : List Int} (h : Rd w (Option.map (fun x => x.add f) (some (⟨b, off, none⟩ : Addr))) l ys) : Rd w (some ⟨b, off + f, none⟩) l ys := by simpa [Addr.add_lit] using h
theorem rd_empty {w : World} {ao : Option Addr} : Rd w ao 0 [] := ⟨rfl, fun h => absurd h (by omega)⟩
theorem rf_nil {xs : List Int} (h : xs.length = 0) : readFrame xs = none := by unfold readFrame; rw [if_pos h]
theorem rf_short {xs : List Int} (h0 : xs.length ≠ 0) (hx : hasState (xs.getD 0 0 / 64) = true) (h : xs.length < 9) : readFrame xs = none := by unfold readFrame; rw [if_neg h0, if_pos hx, if_pos h]
theorem rf_11n {xs : List Int} (hx : hasState (xs.getD 0 0 / 64) = true) (hy : hasData (xs.getD 0 0 / 64) = true) (h : xs.length = 9) : readFrame xs = none := by unfold readFrame; rw [if_neg (by omega), if_pos hx, if_neg (by omega), if_pos hy, if_pos (by omega)]
theorem rf_11 {xs : List Int} (hx : hasState (xs.getD 0 0 / 64) = true) (hy : hasData (xs.getD 0 0 / 64) = true) (h : 10 ≤ xs.length) : readFrame xs = some ⟨xs.getD 0 0 / 64, xs.getD 0 0 / 8 % 8, numIn (bitsOf8 ((xs.drop 1).take 8)) 0 16, numIn (bitsOf8 ((xs.drop 1).take 8)) 16 4, numIn (bitsOf8 ((xs.drop 1).take 8)) 20 4, numIn (bitsOf8 ((xs.drop 1).take 8)) 24 8, numIn (bitsOf8 ((xs.drop 1).take 8)) 32 32, xs.drop 10⟩ := by
  unfold readFrame; rw [if_neg (by omega), if_pos hx, if_neg (by omega), if_pos hy, if_neg (by omega)]
theorem rf_10 {xs : List Int} (hx : hasState (xs.getD 0 0 / 64) = true) (hy : hasData (xs.getD 0 0 / 64) = false) (h : 9 ≤ xs.length) : readFrame xs = some ⟨xs.getD 0 0 / 64, xs.getD 0 0 / 8 % 8, numIn (bitsOf8 ((xs.drop 1).take 8)) 0 16, numIn (bitsOf8 ((xs.drop 1).take 8)) 16 4, numIn (bitsOf8 ((xs.drop 1).take 8)) 20 4, numIn (bitsOf8 ((xs.drop 1).take 8)) 24 8, numIn (bitsOf8 ((xs.drop 1).take 8)) 32 32, []⟩ := by
  unfold readFrame; rw [if_neg (by omega), if_pos hx, if_neg (by omega), if_neg (by rw [hy]; simp)]
theorem rf_01n {xs : List Int} (hx : hasState (xs.getD 0 0 / 64) = false) (hy : hasData (xs.getD 0 0 / 64) = true) (h : xs.length = 1) : readFrame xs = none := by unfold readFrame; rw [if_neg (by omega), if_neg (by rw [hx]; simp), if_pos hy, if_pos (by omega)]
theorem rf_01 {xs : List Int} (hx : hasState (xs.getD 0 0 / 64) = false) (hy : hasData (xs.getD 0 0 / 64) = true) (h : 2 ≤ xs.length) : readFrame xs = some ⟨xs.getD 0 0 / 64, xs.getD 0 0 / 8 % 8, 0, 0, 0, 0, 0, xs.drop 2⟩ := by
  unfold readFrame; rw [if_neg (by omega), if_neg (by rw [hx]; simp), if_pos hy, if_neg (by omega)]
theorem rf_00 {xs : List Int} (hx : hasState (xs.getD 0 0 / 64) = false) (hy : hasData (xs.getD 0 0 / 64) = false) (h : 1 ≤ xs.length) : readFrame xs = some ⟨xs.getD 0 0 / 64, xs.getD 0 0 / 8 % 8, 0, 0, 0, 0, 0, []⟩ := by
  unfold readFrame; rw [if_neg (by omega), if_neg (by rw [hx]; simp), if_neg (by rw [hy]; simp)]
end

section
open Go.RowKit

section
variable {w wi wj : World} {J : Nat} {a q t m r s k : Int} {v : Value} {xs : List Int}
end
theorem ff_range {xs : List Int} (h : isBytes xs = false) : frameFrom xs = (Fr.zero, 2) := by unfold frameFrom; rw [if_pos h]
theorem ff_none {xs : List Int} (h : isBytes xs = true) (h2 : readFrame xs = none) : frameFrom xs = (Fr.zero, 6) := by unfold frameFrom; rw [if_neg (by rw [h]; simp), h2]
theorem ff_no {xs : List Int} {f : Fr} (h : isBytes xs = true) (h2 : readFrame xs = some f) (h3 : ¬ (isFrame f = true ∧ frameBytes f = xs)) : frameFrom xs = (Fr.zero, 6) := by unfold frameFrom; rw [if_neg (by rw [h]; simp), h2]; simp only; rw [if_neg h3]
theorem ff_yes {xs : List Int} {f : Fr} (h : isBytes xs = true) (h2 : readFrame xs = some f) (h3 : isFrame f = true) (h4 : frameBytes f = xs) : frameFrom xs = (f, 0) := by unfold frameFrom; rw [if_neg (by rw [h]; simp), h2]; simp only; rw [if_pos ⟨h3, h4⟩]
theorem readFrame_len {xs : List Int} {f : Fr} (h : readFrame xs = some f) : f.data.length ≤ xs.length := by
  unfold readFrame at h
  split at h
  · cases h
  · split at h
    · split at h
      · cases h
      · split at h
        · split at h
          · cases h
          · cases h; simp
        · cases h; simp
    · split at h
      · split at h
        · cases h
        · cases h; simp
      · cases h; simp

end
end Go.Proofs.Ytggnoeeaoligdaa
