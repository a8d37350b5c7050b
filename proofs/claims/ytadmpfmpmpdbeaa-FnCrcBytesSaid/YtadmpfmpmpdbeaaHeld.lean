/-
  Several slices of the call's own, none of which shares memory with another: how they are kept while further calls make memory, draw, or mark one of them. No program is named here.
-/
import Derived.Test.YtadmpfmpmpdbeaaLists
namespace Go.Proofs.Ytadmpfmpmpdbeaa
open Go.RowKit

/-- Since w0 nothing old has changed; every slice of L is the call's own and reads as its list; no two of them share a block. -/
structure Held (E : Nat) (w0 w : World) (L : List (Value × List Int)) : Prop where
  below : Below w0.heap.size w0 w
  own : ∀ p ∈ L, Own E w w0.heap.size p.1 p.2
  apart : L.Pairwise fun p q => ∀ k, p.1.ownBlock = some k → q.1.ownBlock ≠ some k

section
variable {E : Nat} {w0 w w' : World} {L : List (Value × List Int)} {v : Value} {xs : List Int}
theorem Held.start : Held E w w [] := ⟨Below.refl _ _, (fun _ h => by cases h), List.Pairwise.nil⟩
theorem Held.still (h : Held E w0 w L) (b : Below w.heap.size w w') : Held E w0 w' L :=
  ⟨below_two h.below b, fun p hp => (h.own p hp).below b, h.apart⟩
theorem Held.make (h : Held E w0 w L) (o : Own E w' w.heap.size v xs) (b : Below w.heap.size w w') : Held E w0 w' ((v, xs) :: L) := by
  refine ⟨below_two h.below b, fun p hp => ?_, List.Pairwise.cons (fun q hq k hk e => ?_) h.apart⟩
  · rcases List.mem_cons.1 hp with rfl | hp
    · exact o.more h.below.size
    · exact (h.own p hp).below b
  · have h1 := (o.block k hk).1
    have h2 := ((h.own q hq).block k e).2
    omega
theorem Held.get (h : Held E w0 w L) (i : Nat) (hi : L[i]? = some (v, xs)) : Own E w w0.heap.size v xs := h.own (v, xs) (List.mem_of_getElem? hi)
theorem Held.rd {ao : Option Addr} {n cap : Nat} (h : Held E w0 w L) (i : Nat) (hi : L[i]? = some (.slice ao n cap, xs)) (_ : xs.length = n) : Rd w ao n xs := by
  obtain ⟨ao', cap', e, o, r⟩ := (h.get i hi).get
  cases e
  exact r
theorem Held.mark (L1 : List (Value × List Int)) {L2 : List (Value × List Int)} {ys : List Int} (h : Held E w0 w (L1 ++ (v, xs) :: L2)) (o : Own E w' w0.heap.size v ys) (g : w.grownBy w' v.ownBlock) : Held E w0 w' (L1 ++ (v, ys) :: L2) := by
  have ho := h.own
  have ha := h.apart
  have hb : ∀ k, v.ownBlock = some k → w0.heap.size ≤ k := fun k hk => ((ho (v, xs) (by simp)).block k hk).1
  refine ⟨h.below.grown g h.below.size hb, fun p hp => ?_, ?_⟩
  · rw [List.mem_append, List.mem_cons] at hp
    rw [List.pairwise_append, List.pairwise_cons] at ha
    rcases hp with hp | rfl | hp
    · refine (ho p (by simp [hp])).only g ?_
      cases hk : p.1.ownBlock with
      | none => exact .inl rfl
      | some k => exact .inr (fun e => ha.2.2 p hp (v, xs) (by simp) k hk e.symm)
    · exact o
    · refine (ho p (by simp [hp])).only g ?_
      cases hk : p.1.ownBlock with
      | none => exact .inl rfl
      | some k => exact .inr (fun e => ha.2.1.1 p hp k e.symm hk)
  · rw [List.pairwise_append, List.pairwise_cons] at ha ⊢
    refine ⟨ha.1, ⟨fun q hq k hk => ha.2.1.1 q hq k hk, ha.2.1.2⟩, fun p hp q hq k hk => ?_⟩
    rcases List.mem_cons.1 hq with rfl | hq
    · exact ha.2.2 p hp (v, xs) (by simp) k hk
    · exact ha.2.2 p hp q (by simp [hq]) k hk
end
end Go.Proofs.Ytadmpfmpmpdbeaa
