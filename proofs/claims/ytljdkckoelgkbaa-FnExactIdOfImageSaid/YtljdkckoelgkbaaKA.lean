/-
  Chapter 9: the blocks of an image, as the program's iterator hands them over.
-/
import Derived.Test.YtljdkckoelgkbaaK9
import Derived.Test.YtljdkckoelgkbaaK6
import Derived.Test.YtljdkckoelgkbaaInvIn
namespace Go.Proofs.Ytljdkckoelgkbaa
open Go.RowKit Go.Shelf
attribute [local go_sem] Oper.semAt_some

/-- The k-th block is the one of the plain image. -/
theorem head_is (xs : List Int) (k : Nat) : headB k (partOf xs k) (decide (k + 1 = blocksOf xs.length)) = headOf xs k := by
  unfold headB headOf flag9
  congr 2
  by_cases h : k + 1 = blocksOf xs.length <;> simp [h]
theorem own_j {J : Nat → World → Prop} {b k : Nat} (h : OwnFrom b J) : OwnFrom b (fun (_ : Unit) W => J k W) := fun _ A B row hs hg hr => h k A B row hs hg hr
theorem fl_none (n j : Nat) : fl (Array.replicate n false) j = false := by
  unfold fl
  rw [Array.getD_eq_getD_getElem?, Array.getElem?_replicate]
  split <;> rfl
theorem round_any {n n' : Nat} {P : Program} {l f : Nat} {tmps : Array Value} {assign body : Code} {w : World} {R : Ending → World → Prop} (l2 : Nat) (h : RoundIn Fence.wide n P l f tmps assign body w R) : RoundIn (Fence.wide.inRound l2) n' P l f tmps assign body w R :=
  ⟨trivial, fun c cs _ => h.2 c cs (room_wide _)⟩
def blkEnc (x : List Int) : Array Value := #[blkVal x]
/-- While a block is made and handed over: which operations are done, and what their slots hold. -/
structure PB (W1 w' : World) (f : Nat → Bool) (Y K S L Q V v0 v1 v2 v3 v4 v5 v6 : Value) : Prop where
  n7 : f 7 = false
  n8 : f 8 = false
  bel : Below W1.heap.size W1 w'
  f0 : f 0 = true → v0 = Y
  f1 : f 1 = true → v1 = K
  f2 : f 2 = true → v2 = S
  f3 : f 3 = true → v3 = K
  f4 : f 4 = true → v4 = L
  f5 : f 5 = true → v5 = Q
  f6 : f 6 = true → v6 = V
  c5 : f 5 = true → f 3 = true ∧ f 4 = true
  c6 : f 6 = true → f 1 = true ∧ f 2 = true ∧ f 5 = true
section
variable {W1 w' w2 : World} {f : Nat → Bool} {Y K S L Q V v0 v1 v2 v3 v4 v5 v6 : Value}
theorem PB.s0 (h : PB W1 w' f Y K S L Q V v0 v1 v2 v3 v4 v5 v6) : PB W1 w' (upd f 0) Y K S L Q V Y v1 v2 v3 v4 v5 v6 where
  n7 := by simpa [upd] using h.n7
  n8 := by simpa [upd] using h.n8
  bel := h.bel
  f0 := fun _ => rfl
  f1 := by simpa [upd] using h.f1
  f2 := by simpa [upd] using h.f2
  f3 := by simpa [upd] using h.f3
  f4 := by simpa [upd] using h.f4
  f5 := by simpa [upd] using h.f5
  f6 := by simpa [upd] using h.f6
  c5 := fun hx => by have := h.c5 (by simpa [upd] using hx); simp [upd, this]
  c6 := fun hx => by have := h.c6 (by simpa [upd] using hx); simp [upd, this]
theorem PB.s1 (h : PB W1 w' f Y K S L Q V v0 v1 v2 v3 v4 v5 v6) : PB W1 w' (upd f 1) Y K S L Q V v0 K v2 v3 v4 v5 v6 where
  n7 := by simpa [upd] using h.n7
  n8 := by simpa [upd] using h.n8
  bel := h.bel
  f0 := by simpa [upd] using h.f0
  f1 := fun _ => rfl
  f2 := by simpa [upd] using h.f2
  f3 := by simpa [upd] using h.f3
  f4 := by simpa [upd] using h.f4
  f5 := by simpa [upd] using h.f5
  f6 := by simpa [upd] using h.f6
  c5 := fun hx => by have := h.c5 (by simpa [upd] using hx); simp [upd, this]
  c6 := fun hx => by have := h.c6 (by simpa [upd] using hx); simp [upd, this]
theorem PB.s2 (h : PB W1 w' f Y K S L Q V v0 v1 v2 v3 v4 v5 v6) : PB W1 w' (upd f 2) Y K S L Q V v0 v1 S v3 v4 v5 v6 where
  n7 := by simpa [upd] using h.n7
  n8 := by simpa [upd] using h.n8
  bel := h.bel
  f0 := by simpa [upd] using h.f0
  f1 := by simpa [upd] using h.f1
  f2 := fun _ => rfl
  f3 := by simpa [upd] using h.f3
  f4 := by simpa [upd] using h.f4
  f5 := by simpa [upd] using h.f5
  f6 := by simpa [upd] using h.f6
  c5 := fun hx => by have := h.c5 (by simpa [upd] using hx); simp [upd, this]
  c6 := fun hx => by have := h.c6 (by simpa [upd] using hx); simp [upd, this]
theorem PB.s3 (h : PB W1 w' f Y K S L Q V v0 v1 v2 v3 v4 v5 v6) : PB W1 w' (upd f 3) Y K S L Q V v0 v1 v2 K v4 v5 v6 where
  n7 := by simpa [upd] using h.n7
  n8 := by simpa [upd] using h.n8
  bel := h.bel
  f0 := by simpa [upd] using h.f0
  f1 := by simpa [upd] using h.f1
  f2 := by simpa [upd] using h.f2
  f3 := fun _ => rfl
  f4 := by simpa [upd] using h.f4
  f5 := by simpa [upd] using h.f5
  f6 := by simpa [upd] using h.f6
  c5 := fun hx => by have := h.c5 (by simpa [upd] using hx); simp [upd, this]
  c6 := fun hx => by have := h.c6 (by simpa [upd] using hx); simp [upd, this]
theorem PB.s4 (h : PB W1 w' f Y K S L Q V v0 v1 v2 v3 v4 v5 v6) : PB W1 w' (upd f 4) Y K S L Q V v0 v1 v2 v3 L v5 v6 where
  n7 := by simpa [upd] using h.n7
  n8 := by simpa [upd] using h.n8
  bel := h.bel
  f0 := by simpa [upd] using h.f0
  f1 := by simpa [upd] using h.f1
  f2 := by simpa [upd] using h.f2
  f3 := by simpa [upd] using h.f3
  f4 := fun _ => rfl
  f5 := by simpa [upd] using h.f5
  f6 := by simpa [upd] using h.f6
  c5 := fun hx => by have := h.c5 (by simpa [upd] using hx); simp [upd, this]
  c6 := fun hx => by have := h.c6 (by simpa [upd] using hx); simp [upd, this]
theorem PB.s5 (h : PB W1 w' f Y K S L Q V v0 v1 v2 v3 v4 v5 v6) (d3 : f 3 = true) (d4 : f 4 = true) : PB W1 w' (upd f 5) Y K S L Q V v0 v1 v2 v3 v4 Q v6 where
  n7 := by simpa [upd] using h.n7
  n8 := by simpa [upd] using h.n8
  bel := h.bel
  f0 := by simpa [upd] using h.f0
  f1 := by simpa [upd] using h.f1
  f2 := by simpa [upd] using h.f2
  f3 := by simpa [upd] using h.f3
  f4 := by simpa [upd] using h.f4
  f5 := fun _ => rfl
  f6 := by simpa [upd] using h.f6
  c5 := fun _ => ⟨by simp [upd, d3], by simp [upd, d4]⟩
  c6 := fun hx => by have := h.c6 (by simpa [upd] using hx); simp [upd, this]
theorem PB.s6 (h : PB W1 w' f Y K S L Q V v0 v1 v2 v3 v4 v5 v6) (d1 : f 1 = true) (d2 : f 2 = true) (d5 : f 5 = true) : PB W1 w' (upd f 6) Y K S L Q V v0 v1 v2 v3 v4 v5 V where
  n7 := by simpa [upd] using h.n7
  n8 := by simpa [upd] using h.n8
  bel := h.bel
  f0 := by simpa [upd] using h.f0
  f1 := by simpa [upd] using h.f1
  f2 := by simpa [upd] using h.f2
  f3 := by simpa [upd] using h.f3
  f4 := by simpa [upd] using h.f4
  f5 := by simpa [upd] using h.f5
  f6 := fun _ => rfl
  c5 := fun hx => by have := h.c5 (by simpa [upd] using hx); simp [upd, this]
  c6 := fun _ => ⟨by simp [upd, d1], by simp [upd, d2], by simp [upd, d5]⟩
theorem done_all (h : PB W1 w' f Y K S L Q V v0 v1 v2 v3 v4 v5 v6) (d0 : f 0 = true) (d6 : f 6 = true) (j : Nat) (hj : j < 8) : (if 7 = j then true else f j) = true := by
  have h6 := h.c6 d6
  have h5 := h.c5 h6.2.2
  have hc : j = 0 ∨ j = 1 ∨ j = 2 ∨ j = 3 ∨ j = 4 ∨ j = 5 ∨ j = 6 ∨ j = 7 := by omega
  rcases hc with rfl | rfl | rfl | rfl | rfl | rfl | rfl | rfl <;> simp [d0, d6, h6, h5]
theorem PB.world (h : PB W1 w' f Y K S L Q V v0 v1 v2 v3 v4 v5 v6) (hb : Below w'.heap.size w' w2) : PB W1 w2 f Y K S L Q V v0 v1 v2 v3 v4 v5 v6 := { h with bel := below_two h.bel hb }
end
end Go.Proofs.Ytljdkckoelgkbaa
