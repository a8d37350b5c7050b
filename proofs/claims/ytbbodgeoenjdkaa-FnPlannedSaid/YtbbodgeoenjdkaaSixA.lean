/-
  Chapter 6: the kinds of frames, of the program and of its model.
  Chapter 6: what the program asks of a kind through its interface; BodySize, KindOfHead, KindName, HasStateAndData of the program.
  Chapter 6: kinds and sizes of the model; BodySize, KindOfHead, KindName, HasStateAndData of the model.
-/
import Derived.Test.YtbbodgeoenjdkaaFr1
import Derived.Test.YtbbodgeoenjdkaaOne
import Derived.Test.YtbbodgeoenjdkaaFourA
namespace Go.Proofs.Ytbbodgeoenjdkaa
section
open Go.RowKit

theorem kindOk_none {a : Int} (h0 : a ≠ 0) (h1 : a ≠ 1) (h2 : a ≠ 2) (h3 : a ≠ 3) : kindOk a = false := by
  cases h : kindOk a
  · rfl
  · have := kindOk_four h; omega
end

section
open Go.RowKit

def kindName (a : Int) : ByteArray := if a = 0 then (⟨#[110, 111, 114, 109, 97, 108]⟩ : ByteArray) else if a = 1 then (⟨#[105, 110, 105, 116]⟩ : ByteArray) else if a = 2 then (⟨#[100, 97, 116, 97]⟩ : ByteArray) else if a = 3 then (⟨#[99, 111, 108, 100]⟩ : ByteArray) else ByteArray.empty
/-- BodySize of the program. -/
theorem bs_1 {a n : Int} (h : kindOk a = false) : bodySize a n = (0, 1) := by unfold bodySize; rw [if_pos h]
theorem bs_2 {a n : Int} (h : kindOk a = true) (h2 : sizeOk a n = false) : bodySize a n = (0, 2) := by unfold bodySize; rw [if_neg (by simp [h]), if_pos h2]
theorem bs_0 {a n : Int} (h : kindOk a = true) (h2 : sizeOk a n = true) : bodySize a n = (1 + (if hasState a = true then 8 else 0) + (if hasData a = true then 1 + n else 0), 0) := by unfold bodySize; rw [if_neg (by simp [h]), if_neg (by simp [h2])]
end

section
open Go.RowKit

theorem hasState_ne {a : Int} (h : kindOk a = true) : (a != 0) = hasState a := by
  unfold hasState
  rw [h, Bool.true_and, Bool.eq_iff_iff]
  simp
def stateAndData (a : Int) : Bool × Bool := (hasState a, hasData a)
end
end Go.Proofs.Ytbbodgeoenjdkaa
