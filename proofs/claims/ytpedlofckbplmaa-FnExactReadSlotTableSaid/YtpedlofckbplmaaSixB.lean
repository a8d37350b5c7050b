/-
  Chapter 6: what the program's kinds allow.
  Chapter 6: frames in memory; IsFrame of the program.
-/
import Derived.Test.YtpedlofckbplmaaSixA
import Derived.Test.YtpedlofckbplmaaFiv
namespace Go.Proofs.Ytpedlofckbplmaa
section
open Go.RowKit

theorem state_box {T : Nat} {o : Obj} {w w' : World} {t m r s k : Int} (h : Below ((w.alloc o).alloc (.cells #[.int .i64 t, .int .i64 m, .int .i64 r, .int .i64 s, .int .i64 k] T)).heap.size ((w.alloc o).alloc (.cells #[.int .i64 t, .int .i64 m, .int .i64 r, .int .i64 s, .int .i64 k] T)) w') : StateAt T w' (w.heap.size + 1) t m r s k := by
  have e : (w.alloc o).heap.size = w.heap.size + 1 := by simp
  have := (StateAt.new (T := T) (t := t) (m := m) (r := r) (s := s) (k := k) (w.alloc o)).below h (by simp)
  rwa [e] at this
theorem so3 (q t m r s k : Int) : stateOk 3 q t m r s k = (decide (q = 0) && (isState t m r s k && (decide (m = 0) && decide ((nodesTo k.toNat 32).length = 1)))) := rfl
end

section
open Go.RowKit

/-- Block b holds a frame, its data in the slice v. -/
def FrameAt (T : Nat) (w : World) (b : Nat) (a q t m r s k : Int) (v : Value) : Prop := w.heap[b]? = some (.cells #[.int .i64 a, .int .i64 q, .int .i64 t, .int .i64 m, .int .i64 r, .int .i64 s, .int .i64 k, v] T (0, 0))
section
variable {T b : Nat} {w w' : World} {a q t m r s k : Int} {v : Value}
theorem FrameAt.c0 (h : FrameAt T w b a q t m r s k v) : w.cell? ⟨b, 0, none⟩ = some (.int .i64 a) := cell_of_row w b 0 _ _ (0, 0) h
theorem FrameAt.c1 (h : FrameAt T w b a q t m r s k v) : w.cell? ⟨b, 1, none⟩ = some (.int .i64 q) := cell_of_row w b 1 _ _ (0, 0) h
theorem FrameAt.c2 (h : FrameAt T w b a q t m r s k v) : w.cell? ⟨b, 2, none⟩ = some (.int .i64 t) := cell_of_row w b 2 _ _ (0, 0) h
theorem FrameAt.c3 (h : FrameAt T w b a q t m r s k v) : w.cell? ⟨b, 3, none⟩ = some (.int .i64 m) := cell_of_row w b 3 _ _ (0, 0) h
theorem FrameAt.c4 (h : FrameAt T w b a q t m r s k v) : w.cell? ⟨b, 4, none⟩ = some (.int .i64 r) := cell_of_row w b 4 _ _ (0, 0) h
theorem FrameAt.c5 (h : FrameAt T w b a q t m r s k v) : w.cell? ⟨b, 5, none⟩ = some (.int .i64 s) := cell_of_row w b 5 _ _ (0, 0) h
theorem FrameAt.c6 (h : FrameAt T w b a q t m r s k v) : w.cell? ⟨b, 6, none⟩ = some (.int .i64 k) := cell_of_row w b 6 _ _ (0, 0) h
theorem FrameAt.c7 (h : FrameAt T w b a q t m r s k v) : w.cell? ⟨b, 7, none⟩ = some (v) := cell_of_row w b 7 _ _ (0, 0) h
theorem FrameAt.f (h : FrameAt T w b a q t m r s k v) (i : Nat) : w.frozen? ⟨b, i, none⟩ = false := frozen_of_row w b i _ _ h
theorem FrameAt.lt (h : FrameAt T w b a q t m r s k v) : b < w.heap.size := (Array.getElem?_eq_some_iff.1 h).1
theorem FrameAt.grown {g : Option Nat} (h : FrameAt T w b a q t m r s k v) (hg : w.grownBy w' g) (hne : some b ≠ g) : FrameAt T w' b a q t m r s k v := (hg.block b h.lt hne).trans h
theorem FrameAt.below {B : Nat} (h : FrameAt T w b a q t m r s k v) (hb : Below B w w') (hlt : b < B) : FrameAt T w' b a q t m r s k v := (hb.block b hlt).trans h
theorem FrameAt.new (w : World) : FrameAt T (w.alloc (.cells #[.int .i64 a, .int .i64 q, .int .i64 t, .int .i64 m, .int .i64 r, .int .i64 s, .int .i64 k, v] T)) w.heap.size a q t m r s k v := heap_alloc_new w _
theorem FrameAt.other (h : FrameAt T w b a q t m r s k v) {c i : Nat} {u : Value} (hne : b ≠ c) : FrameAt T (w.setCell ⟨c, i, none⟩ u) b a q t m r s k v := (heap_setCell_other _ _ _ _ hne).trans h
theorem FrameAt.set0 (h : FrameAt T w b a q t m r s k v) (z : Int) : FrameAt T (w.setCell ⟨b, 0, none⟩ (.int .i64 z)) b z q t m r s k v := by
  have := heap_setCell_same w b 0 _ _ (.int .i64 z) h
  simpa [FrameAt] using this
theorem FrameAt.set1 (h : FrameAt T w b a q t m r s k v) (z : Int) : FrameAt T (w.setCell ⟨b, 1, none⟩ (.int .i64 z)) b a z t m r s k v := by
  have := heap_setCell_same w b 1 _ _ (.int .i64 z) h
  simpa [FrameAt] using this
theorem FrameAt.set2 (h : FrameAt T w b a q t m r s k v) (z : Int) : FrameAt T (w.setCell ⟨b, 2, none⟩ (.int .i64 z)) b a q z m r s k v := by
  have := heap_setCell_same w b 2 _ _ (.int .i64 z) h
  simpa [FrameAt] using this
theorem FrameAt.set3 (h : FrameAt T w b a q t m r s k v) (z : Int) : FrameAt T (w.setCell ⟨b, 3, none⟩ (.int .i64 z)) b a q t z r s k v := by
  have := heap_setCell_same w b 3 _ _ (.int .i64 z) h
  simpa [FrameAt] using this
theorem FrameAt.set4 (h : FrameAt T w b a q t m r s k v) (z : Int) : FrameAt T (w.setCell ⟨b, 4, none⟩ (.int .i64 z)) b a q t m z s k v := by
  have := heap_setCell_same w b 4 _ _ (.int .i64 z) h
  simpa [FrameAt] using this
theorem FrameAt.set5 (h : FrameAt T w b a q t m r s k v) (z : Int) : FrameAt T (w.setCell ⟨b, 5, none⟩ (.int .i64 z)) b a q t m r z k v := by
  have := heap_setCell_same w b 5 _ _ (.int .i64 z) h
  simpa [FrameAt] using this
theorem FrameAt.set6 (h : FrameAt T w b a q t m r s k v) (z : Int) : FrameAt T (w.setCell ⟨b, 6, none⟩ (.int .i64 z)) b a q t m r s z v := by
  have := heap_setCell_same w b 6 _ _ (.int .i64 z) h
  simpa [FrameAt] using this
theorem FrameAt.set7 (h : FrameAt T w b a q t m r s k v) (z : Value) : FrameAt T (w.setCell ⟨b, 7, none⟩ (z)) b a q t m r s k z := by
  have := heap_setCell_same w b 7 _ _ (z) h
  simpa [FrameAt] using this
end
/-- The frame that a call lays first reads as it was behind whatever leaves old memory alone. -/
theorem frame_new {T : Nat} {w w' : World} {a q t m r s k : Int} {v : Value} (h : Below (w.alloc (.cells #[.int .i64 a, .int .i64 q, .int .i64 t, .int .i64 m, .int .i64 r, .int .i64 s, .int .i64 k, v] T)).heap.size (w.alloc (.cells #[.int .i64 a, .int .i64 q, .int .i64 t, .int .i64 m, .int .i64 r, .int .i64 s, .int .i64 k, v] T)) w') : FrameAt T w' w.heap.size a q t m r s k v :=
  (FrameAt.new w).below h (by simp)
theorem if_kind {a q t m r s k : Int} {xs : List Int} (h : kindOk a = false) : isFrame ⟨a, q, t, m, r, s, k, xs⟩ = false := by simp [isFrame, h]
theorem if_req {a q t m r s k : Int} {xs : List Int} (h : inRange 0 7 q = false) : isFrame ⟨a, q, t, m, r, s, k, xs⟩ = false := by simp [isFrame, h]
theorem if_state {a q t m r s k : Int} {xs : List Int} (h : stateOk a q t m r s k = false) : isFrame ⟨a, q, t, m, r, s, k, xs⟩ = false := by simp [isFrame, h]
theorem if_size {a q t m r s k : Int} {xs : List Int} (h : sizeOk a xs.length = false) : isFrame ⟨a, q, t, m, r, s, k, xs⟩ = false := by simp [isFrame, h]
theorem if_all {a q t m r s k : Int} {xs : List Int} (h1 : kindOk a = true) (h2 : inRange 0 7 q = true) (h3 : stateOk a q t m r s k = true) (h4 : sizeOk a xs.length = true) : isFrame ⟨a, q, t, m, r, s, k, xs⟩ = isBytes xs := by simp [isFrame, h1, h2, h3, h4]

end
end Go.Proofs.Ytpedlofckbplmaa
