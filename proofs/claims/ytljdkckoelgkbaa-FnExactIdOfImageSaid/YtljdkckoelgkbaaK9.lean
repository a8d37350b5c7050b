/-
  Chapter 9: a new block of the program.
-/
import Derived.Test.YtljdkckoelgkbaaK8
import Derived.Laws.Rows
import Derived.Laws.Tables
namespace Go.Proofs.Ytljdkckoelgkbaa
open Go.RowKit

theorem rd_two9 {T : Nat} (x y : Int) (w : World) : Rd (w.alloc (.cells #[.int .i64 x, .int .i64 y] T)) (some ⟨w.heap.size, 0, none⟩) 2 [x, y] := by
  refine ⟨rfl, fun _ => ⟨w.heap.size, 0, rfl, fun i hi => ?_⟩⟩
  rw [World.cell?_alloc_at _ _ _ _ (by simp)]
  match i, hi with
  | 0, _ => rfl
  | 1, _ => rfl
def flag9 (c : Bool) : Int := if c = true then 1 else 0
/-- A block as a value. -/
def blkVal (xs : List Int) : Value := .agg (cellsI (blk xs))
/-- The head of a block: its number, its mark and size, its part. -/
def headB (k : Int) (part : List Int) (last : Bool) : List Int := [k, (part.length : Int) + 128 * flag9 last] ++ part
end Go.Proofs.Ytljdkckoelgkbaa
