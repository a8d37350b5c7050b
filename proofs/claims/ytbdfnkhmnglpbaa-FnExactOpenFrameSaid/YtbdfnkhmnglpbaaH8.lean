/-
  Chapter 7: a frame laid in a block by a law, whatever the order.
-/
import Derived.Test.YtbdfnkhmnglpbaaH7
import Derived.Test.YtbdfnkhmnglpbaaGH
import Derived.Test.YtbdfnkhmnglpbaaSixI
import Derived.Deep.CutBlock
namespace Go.Proofs.Ytbdfnkhmnglpbaa
open Go.RowKit

theorem grown_eight (w : World) (b : Nat) (a q t m r s k : Int) (v : Value) : w.grownBy (setEight w b a q t m r s k v) (some b) :=
  grown_trans (grown_trans (grown_trans (grown_trans (grown_trans (grown_trans (grown_trans (grown_setCell w b 0 _) (grown_setCell _ b 1 _)) (grown_setCell _ b 2 _)) (grown_setCell _ b 3 _)) (grown_setCell _ b 4 _)) (grown_setCell _ b 5 _)) (grown_setCell _ b 6 _)) (grown_setCell _ b 7 _)
/-- A slice of the call's own keeps while another block is written. -/
theorem Own.notEight {E base J : Nat} {w : World} {v : Value} {xs : List Int} (h : Own E w base v xs) (hj : ∀ k, v.ownBlock = some k → k ≠ J) (a q t m r s k : Int) (u : Value) : Own E (setEight w J a q t m r s k u) base v xs := by
  refine h.only (grown_eight w J a q t m r s k u) ?_
  cases hk : v.ownBlock with
  | none => exact .inl rfl
  | some i => exact .inr (fun e => hj i hk (by simpa using e))
/-- A frame that has been handed back lies in block J; its data a slice of the call's own. -/
def LaidFrame (wp wy : World) (J : Nat) (a q t m r s k : Int) (d : List Int) (p8 : Option Addr) (c8 : Nat) : Prop :=
  FrameAt 28 wy J a q t m r s k (.slice p8 d.length c8) ∧ Own 2 wy wp.heap.size (.slice p8 d.length c8) d ∧ wp.heap.size ≤ J ∧ Below wp.heap.size wp wy
theorem own_above {E base : Nat} {w : World} {v : Value} {xs : List Int} {J : Nat} (h : Own E w base v xs) (hj : J < base) : ∀ k, v.ownBlock = some k → k ≠ J := fun k hk e => by have := (h.block k hk).1; omega
theorem own_under {E base : Nat} {w : World} {v : Value} {xs : List Int} (h : Own E w base v xs) : ∀ k, v.ownBlock = some k → k ≠ w.heap.size := fun k hk e => by have := (h.block k hk).2; omega
theorem laid_store {wp wi : World} {J : Nat} {a q t m r s k a' q' t' m' r' s' k' : Int} {v' : Value} {d : List Int} {p8 : Option Addr} {c8 : Nat} (z : FrameAt 28 wi J a' q' t' m' r' s' k' v') (o : Own 2 wi wp.heap.size (.slice p8 d.length c8) d) (hn : ∀ i, (Value.slice p8 d.length c8).ownBlock = some i → i ≠ J) (hj : wp.heap.size ≤ J) (bb : Below wp.heap.size wp wi) : LaidFrame wp (setEight wi J a q t m r s k (.slice p8 d.length c8)) J a q t m r s k d p8 c8 :=
  ⟨z.eight a q t m r s k _, o.notEight hn a q t m r s k _, hj, bb.trans (below_eight hj a q t m r s k _)⟩
end Go.Proofs.Ytbdfnkhmnglpbaa
