/-
  Chapter 10: FindNode of the program and of its model.
-/
import Derived.Test.YtpedlofckbplmaaN7
namespace Go.Proofs.Ytpedlofckbplmaa
open Go.RowKit

/-- The four stores of an entry. -/
def setNd (w : World) (b off : Nat) (x : Nd) : World := (((w.setCell ⟨b, off, none⟩ (.int .i64 x.id)).setCell ⟨b, off + 1, none⟩ (.string x.name)).setCell ⟨b, off + 2, none⟩ (.int .i64 x.drift)).setCell ⟨b, off + 3, none⟩ (.bool x.pas)
theorem below_nd {B b off : Nat} {w : World} (hb : B ≤ b) (x : Nd) : Below B w (setNd w b off x) := ((((Below.refl _ _).setCell hb _).setCell hb _).setCell hb _).setCell hb _
theorem below_two'' {B : Nat} {a w w' : World} (h : Below B a w) (k : Below B w w') : Below B a w' := h.trans k
section
variable {T b : Nat} {w : World} {d : Int} {s : ByteArray} {f : Int} {p : Bool}
theorem NdAt.set0 (h : NdAt T w b ⟨d, s, f, p⟩) (z : Int) : NdAt T (w.setCell ⟨b, 0, none⟩ (.int .i64 z)) b ⟨z, s, f, p⟩ := by
  have := heap_setCell_same w b 0 _ _ (.int .i64 z) h
  simpa [NdAt] using this
theorem NdAt.set1 (h : NdAt T w b ⟨d, s, f, p⟩) (z : ByteArray) : NdAt T (w.setCell ⟨b, 1, none⟩ (.string z)) b ⟨d, z, f, p⟩ := by
  have := heap_setCell_same w b 1 _ _ (.string z) h
  simpa [NdAt] using this
theorem NdAt.set2 (h : NdAt T w b ⟨d, s, f, p⟩) (z : Int) : NdAt T (w.setCell ⟨b, 2, none⟩ (.int .i64 z)) b ⟨d, s, z, p⟩ := by
  have := heap_setCell_same w b 2 _ _ (.int .i64 z) h
  simpa [NdAt] using this
theorem NdAt.set3 (h : NdAt T w b ⟨d, s, f, p⟩) (z : Bool) : NdAt T (w.setCell ⟨b, 3, none⟩ (.bool z)) b ⟨d, s, f, z⟩ := by
  have := heap_setCell_same w b 3 _ _ (.bool z) h
  simpa [NdAt] using this
end
theorem NdAt.put {T b : Nat} {w : World} {x : Nd} (h : NdAt T w b x) (y : Nd) : NdAt T (setNd w b 0 y) b y := by
  obtain ⟨d, s, f, p⟩ := x
  exact (((h.set0 y.id).set1 y.name).set2 y.drift).set3 y.pas
theorem NdAt.other {T b c off : Nat} {w : World} {x y : Nd} (h : NdAt T w b x) (hne : b ≠ c) : NdAt T (setNd w c off y) b x :=
  (heap_setCell_other _ _ _ _ hne).trans ((heap_setCell_other _ _ _ _ hne).trans ((heap_setCell_other _ _ _ _ hne).trans ((heap_setCell_other _ _ _ _ hne).trans h)))

end Go.Proofs.Ytpedlofckbplmaa
