/-
  Chapter 4: spec.DrawStateDistance.
-/
import Derived.Test.YtkidhilipeoliaaDoorC4j
import Derived.Test.YtkidhilipeoliaaDoorDrawC
import Derived.Deep.RegionHeld3
import Derived.Deep.RegionWith
namespace Go.Proofs.YtkidhilipeoliaaDoor
open Go.RowKit

/-- What a draw of two states leaves. -/
def DrawnTwo (w : World) (e : Ending) (w' : World) : Prop :=
  ∃ t m r s k t' m' r' s' k' : Int, e = .returned (.tuple #[.agg #[.int .i64 t, .int .i64 m, .int .i64 r, .int .i64 s, .int .i64 k], .agg #[.int .i64 t', .int .i64 m', .int .i64 r', .int .i64 s', .int .i64 k']]) ∧ Below w.heap.size w w'
theorem below_cell (D i : Nat) (q : Int) (w : World) : Below D w (w.setCell ⟨D, i, none⟩ (.int .i64 q)) := (Below.refl D w).setCell (p := ⟨D, i, none⟩) (Nat.le_refl _) _
theorem HeldS.stillB {E T : Nat} {w0 w w' : World} {p B : Nat} (h : HeldS E T w0 w p []) (b : Below B w w') (hp : p < B) : HeldS E T w0 w' p [] :=
  ⟨h.below.trans (b.mono (by have := h.lo; omega)), h.lo, h.src.belowB b hp, (fun _ h => by cases h), List.Pairwise.nil⟩
theorem StateAt.drew {T b : Nat} {w : World} {t m r s k : Int} (h : StateAt T w b t m r s k) : StateAt T w.drew b t m r s k := h
theorem StateAt.far5 {T b c : Nat} {w : World} {t m r s k : Int} (h : StateAt T w c t m r s k) (hne : c ≠ b) (t' m' r' s' k' : Int) : StateAt T (setFive w b t' m' r' s' k') c t m r s k :=
  ((((h.other (c := b) hne).other (c := b) hne).other (c := b) hne).other (c := b) hne).other (c := b) hne

end Go.Proofs.YtkidhilipeoliaaDoor
