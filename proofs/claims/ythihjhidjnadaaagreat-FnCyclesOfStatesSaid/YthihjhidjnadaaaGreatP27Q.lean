/-
  Contracts of the program's, the model's and the laws' functions, and plain mathematics, on which a proof of this claim stands (part Q).
-/

import Derived.Test.YthihjhidjnadaaaGreatP27D
import Derived.Test.YthihjhidjnadaaaGreatP27E
import Derived.Test.YthihjhidjnadaaaGreatP27M
import Derived.Test.YthihjhidjnadaaaGreatP27A
import Derived.Test.YthihjhidjnadaaaGreatP27Z
import Derived.Test.YthihjhidjnadaaaGreatP27I
import Derived.Test.YthihjhidjnadaaaGreatP27N
import Derived.Test.YthihjhidjnadaaaGreatP27S
import Derived.Test.YthihjhidjnadaaaGreatP27T
import Derived.Test.YthihjhidjnadaaaGreatP27C
import Derived.Test.YthihjhidjnadaaaGreatP27L
namespace Go.Proofs.YthihjhidjnadaaaGreat
section
open Go.RowKit
structure Sh (T : Nat) (w W : World) (L : List (Nat × Mv)) : Prop where
  at_ : ∀ p ∈ L, MvAt T W p.1 p.2 ∧ RdMe W p.2
  below : Below w.heap.size w W
section
variable {T : Nat} {w W W' : World} {L : List (Nat × Mv)}
theorem Sh.start (b : Below w.heap.size w W) : Sh T w W [] := ⟨fun p hp => absurd hp (by simp), b⟩
theorem Sh.call (h : Sh T w W L) (b : Below W.heap.size W W') : Sh T w W' L :=
  ⟨fun p hp => ⟨(h.at_ p hp).1.below b (h.at_ p hp).1.lt, (h.at_ p hp).2.below b⟩, below_two h.below b⟩
theorem Sh.push (h : Sh T w W L) {v : Mv} (hv : RdMe W v) : Sh T w (W.alloc (.cells #[.int .i64 v.id, .slice v.no v.n.length v.nc, .slice v.mo v.cs.length v.mc, .slice v.eo v.e.length v.ec] T)) ((W.heap.size, v) :: L) := by
  have b := (Below.refl W.heap.size W).alloc (Nat.le_refl _) (.cells #[.int .i64 v.id, .slice v.no v.n.length v.nc, .slice v.mo v.cs.length v.mc, .slice v.eo v.e.length v.ec] T)
  refine ⟨fun p hp => ?_, (h.call b).below⟩
  rcases List.mem_cons.1 hp with rfl | hp
  · exact ⟨MvAt.new W, hv.below b⟩
  · exact (h.call b).at_ p hp
theorem Sh.b (h : Sh T w W L) (i : Nat) {B : Nat} {v : Mv} (hi : L[i]? = some (B, v)) : MvAt T W B v := (h.at_ _ (List.mem_of_getElem? hi)).1
theorem Sh.r (h : Sh T w W L) (i : Nat) {B : Nat} {v : Mv} (hi : L[i]? = some (B, v)) : RdMe W v := (h.at_ _ (List.mem_of_getElem? hi)).2
end
end
end Go.Proofs.YthihjhidjnadaaaGreat
