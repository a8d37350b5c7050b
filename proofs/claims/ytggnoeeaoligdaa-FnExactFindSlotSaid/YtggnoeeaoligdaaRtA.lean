/-
  Chapters 10 to 12: the program's reader of tables: what its body keeps while it reads.
-/
import Derived.Test.YtggnoeeaoligdaaNC
import Derived.Test.YtggnoeeaoligdaaND
import Derived.Recover
import Derived.Defers
namespace Go.Proofs.Ytggnoeeaoligdaa
open Go.RowKit

/-- While a table is read: block w.heap.size holds the code, the block behind it is the reader with r before it. -/
structure RtSt (w wr : World) (r : List Int) : Prop where
  rd : RdrAt wr (w.heap.size + 1) r
  code : wr.heap[w.heap.size]? = some (.cells #[.int .i64 0] 2 (0, 0))
  below : Below w.heap.size w wr
section
variable {w wr wr' : World} {r r' : List Int}
theorem RtSt.size (h : RtSt w wr r) : w.heap.size + 2 ≤ wr.heap.size := h.rd.lt
theorem RtSt.call (h : RtSt w wr r) (hr : RdrAt wr' (w.heap.size + 1) r') (g : wr.grownBy wr' (some (w.heap.size + 1))) : RtSt w wr' r' :=
  ⟨hr, (g.block w.heap.size (by have := h.size; omega) (by simp)).trans h.code, h.below.grown g h.below.size (fun k hk => by cases hk; omega)⟩
theorem RtSt.low {B : Nat} (h : RtSt w wr r) (hb : Below B wr wr') (hB : w.heap.size + 2 ≤ B) : RtSt w wr' r :=
  ⟨h.rd.below hb (by omega), (hb.block w.heap.size (by omega)).trans h.code, h.below.trans (hb.mono (by omega))⟩
theorem RtSt.next (h : RtSt w wr r) (hb : Below wr.heap.size wr wr') : RtSt w wr' r := h.low hb h.size
theorem RtSt.bad {e : Ending} (h : RtSt w wr r) (hb : Bad wr (w.heap.size + 1) e wr') : wr'.cell? ⟨w.heap.size, 0, none⟩ = some (.int .i64 0) ∧ wr'.frozen? ⟨w.heap.size, 0, none⟩ = false ∧ Below w.heap.size w (wr'.setCell ⟨w.heap.size, 0, none⟩ (.int .i64 6)) ∧ (wr'.setCell ⟨w.heap.size, 0, none⟩ (.int .i64 6)).cell? ⟨w.heap.size, 0, none⟩ = some (.int .i64 6) := by
  have h1 := (hb.2.block w.heap.size (by have := h.size; omega) (by simp)).trans h.code
  have h2 := heap_setCell_same wr' w.heap.size 0 _ _ (.int .i64 6) h1
  exact ⟨cell_of_row wr' _ 0 _ _ _ h1, frozen_of_row wr' _ 0 _ _ h1, (h.below.grown hb.2 h.below.size (fun k hk => by cases hk; omega)).trans ((Below.refl w.heap.size wr').setCell (p := ⟨w.heap.size, 0, none⟩) (by exact Nat.le_refl _) _), by rw [cell_of_row _ _ 0 _ _ _ h2]; rfl⟩
end
/-- At the start: the code's cell, then the reader. -/
theorem RtSt.start {w : World} {ao : Option Addr} {cap : Nat} {xs : List Int} (hr : Rd w ao xs.length xs) (hcap : xs.length ≤ cap) (hcap2 : cap ≤ 9223372036854775807) (hblk : ∀ a, ao = some a → a.block < w.heap.size) (hin : ∀ x ∈ xs, 0 ≤ x ∧ x ≤ 255) :
    RtSt w ((w.alloc (.cells #[.int .i64 0] 2)).alloc (.cells #[.slice ao xs.length cap] 156)) xs := by
  obtain ⟨wa, hwa⟩ : ∃ wa, wa = w.alloc (.cells #[.int .i64 0] 2) := ⟨_, rfl⟩
  have hb : Below w.heap.size w wa := by rw [hwa]; exact (Below.refl _ _).alloc (Nat.le_refl _) _
  have hsa : wa.heap.size = w.heap.size + 1 := by rw [hwa]; simp
  have hba : wa.heap[w.heap.size]? = some (.cells #[.int .i64 0] 2 (0, 0)) := by rw [hwa]; exact heap_alloc_new w _
  have hb2 : Below wa.heap.size wa (wa.alloc (.cells #[.slice ao xs.length cap] 156)) := (Below.refl _ _).alloc (Nat.le_refl _) _
  rw [← hwa]
  exact ⟨⟨ao, cap, by rw [← hsa]; exact heap_alloc_new wa _, (hr.below hb).below hb2, hcap, hcap2, fun a e => by have := hblk a e; omega, hin⟩, (hb2.block w.heap.size (by omega)).trans hba, below_two hb hb2⟩
/-- The end of a table's reading: the code is written once more. -/
theorem RtSt.done {w wr : World} {r : List Int} (h : RtSt w wr r) : ∃ ao cap, wr.cell? ⟨w.heap.size + 1, 0, none⟩ = some (.slice ao r.length cap) ∧ wr.cell? ⟨w.heap.size, 0, none⟩ = some (.int .i64 0) ∧ wr.frozen? ⟨w.heap.size, 0, none⟩ = false ∧
    (wr.setCell ⟨w.heap.size, 0, none⟩ (.int .i64 0)).cell? ⟨w.heap.size + 1, 0, none⟩ = some (.slice ao r.length cap) ∧ (wr.setCell ⟨w.heap.size, 0, none⟩ (.int .i64 0)).cell? ⟨w.heap.size, 0, none⟩ = some (.int .i64 0) ∧ (wr.setCell ⟨w.heap.size, 0, none⟩ (.int .i64 0)).frozen? ⟨w.heap.size, 0, none⟩ = false ∧
    Below w.heap.size w (wr.setCell ⟨w.heap.size, 0, none⟩ (.int .i64 0)) := by
  obtain ⟨ao2, cap2, hh, -⟩ := h.rd
  have h1 := h.code
  have h2 := heap_setCell_same wr w.heap.size 0 _ _ (.int .i64 0) h1
  exact ⟨ao2, cap2, cell_of_row wr _ 0 _ _ _ hh, cell_of_row wr _ 0 _ _ _ h1, frozen_of_row wr _ 0 _ _ h1, cell_of_row _ _ 0 _ _ _ ((heap_setCell_other wr _ _ _ (by simp)).trans hh), by rw [cell_of_row _ _ 0 _ _ _ h2]; rfl, frozen_of_row _ _ 0 _ _ h2, h.below.trans ((Below.refl w.heap.size wr).setCell (p := ⟨w.heap.size, 0, none⟩) (by exact Nat.le_refl _) _)⟩
theorem bytes_at_rt {xs : List Int} (h : ∀ x ∈ xs, 0 ≤ x ∧ x ≤ 255) (i : Nat) : 0 ≤ xs.getD i 0 ∧ xs.getD i 0 ≤ 255 := by
  by_cases hi : i < xs.length
  · exact h _ (getD_mem' hi)
  · simp [List.getD, List.getElem?_eq_none (Nat.not_lt.1 hi)]
end Go.Proofs.Ytggnoeeaoligdaa
