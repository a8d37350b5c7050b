/-
  Chapter 8: descriptors in memory; a descriptor copied and compared by the laws.
-/
import Derived.Test.YtjejflngaelgkaaDe1
import Derived.Test.YtjejflngaelgkaaSixA
import Derived.Test.YtjejflngaelgkaaFourA
namespace Go.Proofs.Ytjejflngaelgkaa
open Go.RowKit

/-- Block b holds a descriptor. -/
def DescAt (T : Nat) (w : World) (b : Nat) (n a z u : Int) (c : Bool) : Prop := w.heap[b]? = some (.cells #[.int .i64 n, .int .i64 a, .int .i64 z, .int .i64 u, .bool c] T (0, 0))
/-- A descriptor handed back, all old memory as it was. -/
def GivesDesc (w : World) (n a z u : Int) (c : Bool) (e : Ending) (w' : World) : Prop := e = .returned (.agg #[.int .i64 n, .int .i64 a, .int .i64 z, .int .i64 u, .bool c]) ∧ Below w.heap.size w w'
section
variable {T b : Nat} {w w' : World} {n a z u : Int} {c : Bool}
theorem DescAt.c0 (h : DescAt T w b n a z u c) : w.cell? ⟨b, 0, none⟩ = some (.int .i64 n) := cell_of_row w b 0 _ _ (0, 0) h
theorem DescAt.c1 (h : DescAt T w b n a z u c) : w.cell? ⟨b, 1, none⟩ = some (.int .i64 a) := cell_of_row w b 1 _ _ (0, 0) h
theorem DescAt.c2 (h : DescAt T w b n a z u c) : w.cell? ⟨b, 2, none⟩ = some (.int .i64 z) := cell_of_row w b 2 _ _ (0, 0) h
theorem DescAt.c3 (h : DescAt T w b n a z u c) : w.cell? ⟨b, 3, none⟩ = some (.int .i64 u) := cell_of_row w b 3 _ _ (0, 0) h
theorem DescAt.c4 (h : DescAt T w b n a z u c) : w.cell? ⟨b, 4, none⟩ = some (.bool c) := cell_of_row w b 4 _ _ (0, 0) h
theorem DescAt.f (h : DescAt T w b n a z u c) (i : Nat) : w.frozen? ⟨b, i, none⟩ = false := frozen_of_row w b i _ _ h
theorem DescAt.lt (h : DescAt T w b n a z u c) : b < w.heap.size := (Array.getElem?_eq_some_iff.1 h).1
theorem DescAt.grown {g : Option Nat} (h : DescAt T w b n a z u c) (hg : w.grownBy w' g) (hne : some b ≠ g) : DescAt T w' b n a z u c := (hg.block b h.lt hne).trans h
theorem DescAt.below {B : Nat} (h : DescAt T w b n a z u c) (hb : Below B w w') (hlt : b < B) : DescAt T w' b n a z u c := (hb.block b hlt).trans h
theorem DescAt.new (w : World) : DescAt T (w.alloc (.cells #[.int .i64 n, .int .i64 a, .int .i64 z, .int .i64 u, .bool c] T)) w.heap.size n a z u c := heap_alloc_new w _
theorem DescAt.other (h : DescAt T w b n a z u c) {q i : Nat} {v : Value} (hne : b ≠ q) : DescAt T (w.setCell ⟨q, i, none⟩ v) b n a z u c := (heap_setCell_other _ _ _ _ hne).trans h
theorem DescAt.set0 (h : DescAt T w b n a z u c) (y : Int) : DescAt T (w.setCell ⟨b, 0, none⟩ (.int .i64 y)) b y a z u c := by
  have := heap_setCell_same w b 0 _ _ (.int .i64 y) h
  simpa [DescAt] using this
theorem DescAt.set1 (h : DescAt T w b n a z u c) (y : Int) : DescAt T (w.setCell ⟨b, 1, none⟩ (.int .i64 y)) b n y z u c := by
  have := heap_setCell_same w b 1 _ _ (.int .i64 y) h
  simpa [DescAt] using this
theorem DescAt.set2 (h : DescAt T w b n a z u c) (y : Int) : DescAt T (w.setCell ⟨b, 2, none⟩ (.int .i64 y)) b n a y u c := by
  have := heap_setCell_same w b 2 _ _ (.int .i64 y) h
  simpa [DescAt] using this
theorem DescAt.set3 (h : DescAt T w b n a z u c) (y : Int) : DescAt T (w.setCell ⟨b, 3, none⟩ (.int .i64 y)) b n a z y c := by
  have := heap_setCell_same w b 3 _ _ (.int .i64 y) h
  simpa [DescAt] using this
theorem DescAt.set4 (h : DescAt T w b n a z u c) (y : Bool) : DescAt T (w.setCell ⟨b, 4, none⟩ (.bool y)) b n a z u y := by
  have := heap_setCell_same w b 4 _ _ (.bool y) h
  simpa [DescAt] using this
theorem desc_cells (h : DescAt T w b n a z u c) : w.cell? ⟨b, 0, none⟩ = some (.int .i64 n) ∧ w.cell? ⟨b, 1, none⟩ = some (.int .i64 a) ∧ w.cell? ⟨b, 2, none⟩ = some (.int .i64 z) ∧ w.cell? ⟨b, 3, none⟩ = some (.int .i64 u) ∧ w.cell? ⟨b, 4, none⟩ = some (.bool c) := ⟨h.c0, h.c1, h.c2, h.c3, h.c4⟩
end
/-- The struct that a call lays first reads as it was behind whatever leaves old memory alone. -/
theorem desc_new {T : Nat} {w w' : World} {n a z u : Int} {c : Bool} (h : Below (w.alloc (.cells #[.int .i64 n, .int .i64 a, .int .i64 z, .int .i64 u, .bool c] T)).heap.size (w.alloc (.cells #[.int .i64 n, .int .i64 a, .int .i64 z, .int .i64 u, .bool c] T)) w') : DescAt T w' w.heap.size n a z u c :=
  (DescAt.new w).below h (by simp)
theorem toDescriptor_any (n a z u : Int) (c : Bool) (w : World) : Calls Try.prog 33 #[.agg #[.int .i64 n, .int .i64 a, .int .i64 z, .int .i64 u, .bool c]] w (GivesDesc w n a z u c) := by
  go_enter Try.func33, Try.ntmps33
  go_wp2
  exact bodyPost_ret (v := .agg #[.int .i64 n, .int .i64 a, .int .i64 z, .int .i64 u, .bool c]) (by simp [results, Try.results33, go_sem]) rfl ⟨rfl, (((Below.refl _ _).alloc (Nat.le_refl _) _).alloc (by simp) _).alloc (by simp; omega) _⟩
theorem eqDescriptor_any (n a z u : Int) (c : Bool) (w : World) : Calls Try.prog 42 #[.agg #[.int .i64 n, .int .i64 a, .int .i64 z, .int .i64 u, .bool c], .agg #[.int .i64 n, .int .i64 a, .int .i64 z, .int .i64 u, .bool c]] w fun e w' => e = .returned (.bool true) ∧ Below w.heap.size w w' := by
  have h0 : (n != n) = false := by simp
  have h1 : (a != a) = false := by simp
  have h2 : (z != z) = false := by simp
  have h3 : (u != u) = false := by simp
  have h4 : (c != c) = false := by simp
  go_enter Try.func42, Try.ntmps42
  go_wp2
  go_ret
  exact ⟨rfl, ((Below.refl _ _).alloc (Nat.le_refl _) _).alloc (by simp) _⟩
end Go.Proofs.Ytjejflngaelgkaa
