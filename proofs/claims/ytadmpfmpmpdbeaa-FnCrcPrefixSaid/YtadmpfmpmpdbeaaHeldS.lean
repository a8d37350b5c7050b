/-
  Slices of the call's own beside a source of draws: how they are kept while draws, calls and new blocks follow one another.
-/
import Derived.Test.YtadmpfmpmpdbeaaDraw
import Derived.Test.YtadmpfmpmpdbeaaC1b
namespace Go.Proofs.Ytadmpfmpmpdbeaa
open Go.RowKit

/-- Since w0 nothing old has changed; block p, laid since then, is a source; every slice of L is the call's own, behind p, and reads as its list; no two of them share a block. -/
structure HeldS (E T : Nat) (w0 w : World) (p : Nat) (L : List (Value × List Int)) : Prop where
  below : Below w0.heap.size w0 w
  lo : w0.heap.size ≤ p
  src : Src T w p
  own : ∀ q ∈ L, Own E w (p + 1) q.1 q.2
  apart : L.Pairwise fun q r => ∀ k, q.1.ownBlock = some k → r.1.ownBlock ≠ some k

section
variable {E T : Nat} {w0 w w' : World} {p : Nat} {L : List (Value × List Int)} {v : Value} {xs : List Int}
theorem HeldS.start (h : Below w0.heap.size w0 w) (hl : w0.heap.size ≤ p) (hs : Src T w p) : HeldS E T w0 w p [] := ⟨h, hl, hs, (fun _ h => by cases h), List.Pairwise.nil⟩
theorem HeldS.still (h : HeldS E T w0 w p L) (b : Below w.heap.size w w') : HeldS E T w0 w' p L :=
  ⟨below_two h.below b, h.lo, h.src.below b, fun q hq => (h.own q hq).below b, h.apart⟩
theorem HeldS.next (h : HeldS E T w0 w p L) (hs : Src T w' p) (g : w.grownBy w' (some p)) : HeldS E T w0 w' p L :=
  ⟨h.below.grown g h.below.size (fun k hk => by cases hk; exact h.lo), h.lo, hs, fun q hq => (h.own q hq).src g (by omega), h.apart⟩
theorem HeldS.add (h : HeldS E T w0 w' p L) (hpw : p < w.heap.size) (hL : ∀ q ∈ L, ∀ k, q.1.ownBlock = some k → k < w.heap.size) (o : Own E w' w.heap.size v xs) : HeldS E T w0 w' p ((v, xs) :: L) := by
  refine ⟨h.below, h.lo, h.src, fun q hq => ?_, List.Pairwise.cons (fun q hq k hk e => ?_) h.apart⟩
  · rcases List.mem_cons.1 hq with rfl | hq
    · exact o.more hpw
    · exact h.own q hq
  · have h1 := (o.block k hk).1
    have h2 := hL q hq k e
    omega
theorem HeldS.lt (h : HeldS E T w0 w p L) : ∀ q ∈ L, ∀ k, q.1.ownBlock = some k → k < w.heap.size := fun q hq k hk => ((h.own q hq).block k hk).2
theorem HeldS.draw (h : HeldS E T w0 w p L) (o : Own E w' w.heap.size v xs) (hs : Src T w' p) (g : w.grownBy w' (some p)) : HeldS E T w0 w' p ((v, xs) :: L) :=
  (h.next hs g).add h.src.lt h.lt o
theorem HeldS.make (h : HeldS E T w0 w p L) (o : Own E w' w.heap.size v xs) (b : Below w.heap.size w w') : HeldS E T w0 w' p ((v, xs) :: L) :=
  (h.still b).add h.src.lt h.lt o
theorem HeldS.get (h : HeldS E T w0 w p L) (i : Nat) (hi : L[i]? = some (v, xs)) : Own E w w0.heap.size v xs := (h.own (v, xs) (List.mem_of_getElem? hi)).more (by have := h.lo; omega)
theorem HeldS.rd {ao : Option Addr} {n cap : Nat} (h : HeldS E T w0 w p L) (i : Nat) (hi : L[i]? = some (.slice ao n cap, xs)) (_ : xs.length = n) : Rd w ao n xs := by
  obtain ⟨ao', cap', e, o, r⟩ := (h.get i hi).get
  cases e
  exact r
theorem HeldS.held (h : HeldS E T w0 w p L) : Held E w0 w L := ⟨h.below, fun q hq => (h.own q hq).more (by have := h.lo; omega), h.apart⟩
end

/-- What a draw of a slice and two numbers leaves. -/
def DrawnA (E : Nat) (w : World) (e : Ending) (w' : World) : Prop :=
  ∃ v xs a b, e = .returned (.tuple #[v, .int .i64 a, .int .i64 b]) ∧ Own E w' w.heap.size v xs ∧ xs.length ≤ 9000 ∧ Below w.heap.size w w'
/-- What a draw of a slice leaves. -/
def Drawn1 (E : Nat) (w : World) (e : Ending) (w' : World) : Prop :=
  ∃ v xs, e = .returned v ∧ Own E w' w.heap.size v xs ∧ xs.length ≤ 9000 ∧ Below w.heap.size w w'

end Go.Proofs.Ytadmpfmpmpdbeaa
