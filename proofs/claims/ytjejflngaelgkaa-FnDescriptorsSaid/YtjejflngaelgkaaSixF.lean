/-
  Chapter 6: l06Frame.
  Chapter 6: l06Frame, its ways (A).
-/
import Derived.Test.YtjejflngaelgkaaSixE
namespace Go.Proofs.Ytjejflngaelgkaa
section
open Go.RowKit

theorem ReadSt.start2 (w : World) (a q : Int) : ReadSt w (((w.alloc (.cells #[.int .i64 0, .int .i64 0, .int .i64 0, .int .i64 0, .int .i64 0, .int .i64 0, .int .i64 0, .slice none 0 0] 41)).alloc (.cells #[.int .i64 a, .int .i64 q, .int .i64 0, .int .i64 0, .int .i64 0, .int .i64 0, .int .i64 0, .slice none 0 0] 41)).drew) a q 0 0 0 0 0 (.slice none 0 0) [] := by
  have e1 : (w.alloc (.cells #[.int .i64 0, .int .i64 0, .int .i64 0, .int .i64 0, .int .i64 0, .int .i64 0, .int .i64 0, .slice none 0 0] 41)).heap.size = w.heap.size + 1 := by simp
  have r0 : FrameAt 41 (w.alloc (.cells #[.int .i64 0, .int .i64 0, .int .i64 0, .int .i64 0, .int .i64 0, .int .i64 0, .int .i64 0, .slice none 0 0] 41)) w.heap.size 0 0 0 0 0 0 0 (.slice none 0 0) := FrameAt.new w
  have b1 : Below (w.alloc (.cells #[.int .i64 0, .int .i64 0, .int .i64 0, .int .i64 0, .int .i64 0, .int .i64 0, .int .i64 0, .slice none 0 0] 41)).heap.size (w.alloc (.cells #[.int .i64 0, .int .i64 0, .int .i64 0, .int .i64 0, .int .i64 0, .int .i64 0, .int .i64 0, .slice none 0 0] 41)) ((w.alloc (.cells #[.int .i64 0, .int .i64 0, .int .i64 0, .int .i64 0, .int .i64 0, .int .i64 0, .int .i64 0, .slice none 0 0] 41)).alloc (.cells #[.int .i64 a, .int .i64 q, .int .i64 0, .int .i64 0, .int .i64 0, .int .i64 0, .int .i64 0, .slice none 0 0] 41)) := (Below.refl _ _).alloc (Nat.le_refl _) _
  have v0 : FrameAt 41 ((w.alloc (.cells #[.int .i64 0, .int .i64 0, .int .i64 0, .int .i64 0, .int .i64 0, .int .i64 0, .int .i64 0, .slice none 0 0] 41)).alloc (.cells #[.int .i64 a, .int .i64 q, .int .i64 0, .int .i64 0, .int .i64 0, .int .i64 0, .int .i64 0, .slice none 0 0] 41)) (w.alloc (.cells #[.int .i64 0, .int .i64 0, .int .i64 0, .int .i64 0, .int .i64 0, .int .i64 0, .int .i64 0, .slice none 0 0] 41)).heap.size a q 0 0 0 0 0 (.slice none 0 0) := FrameAt.new _
  rw [e1] at v0
  have s : ReadSt w ((w.alloc (.cells #[.int .i64 0, .int .i64 0, .int .i64 0, .int .i64 0, .int .i64 0, .int .i64 0, .int .i64 0, .slice none 0 0] 41)).alloc (.cells #[.int .i64 a, .int .i64 q, .int .i64 0, .int .i64 0, .int .i64 0, .int .i64 0, .int .i64 0, .slice none 0 0] 41)) a q 0 0 0 0 0 (.slice none 0 0) [] := ⟨r0.below b1 r0.lt, v0, below_box (Below.trans (Below.refl _ _) b1), Own.nil_⟩
  exact s.call (Below.drew (Below.refl _ _))
theorem FrameAt.otherEight {T b c : Nat} {w : World} {a q t m r s k : Int} {v : Value} (h : FrameAt T w b a q t m r s k v) (hne : b ≠ c) (a' q' t' m' r' s' k' : Int) (v' : Value) : FrameAt T (setEight w c a' q' t' m' r' s' k' v') b a q t m r s k v :=
  (((((((h.other hne).other hne).other hne).other hne).other hne).other hne).other hne).other hne
end

section
open Go.RowKit

end
end Go.Proofs.Ytjejflngaelgkaa
