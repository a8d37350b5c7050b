/-
  Chapter 9: the blocks of some data; ImageOf of the program.
-/
import Derived.Test.YtljdkckoelgkbaaKA
import Derived.Test.YtljdkckoelgkbaaRngB
namespace Go.Proofs.Ytljdkckoelgkbaa
open Go.RowKit Go.Shelf
attribute [local go_sem] Oper.semAt_some

theorem own_size {β : Type} (m B : Nat) : OwnFrom B (fun (_ : β) W => m ≤ W.heap.size) := fun _ _ _ _ h hg _ => Nat.le_trans h hg.size
theorem own_cells {E : Nat} {W : World} {base : Nat} {v : Value} {xs : List Int} (h : Own E W base v xs) {j : Nat} (hj : v.ownBlock = some j) : base ≤ j ∧ ∃ cur, W.heap[j]? = some (.cells cur E (0, 0)) := by
  rcases h.2 with ⟨rfl, _⟩ | ⟨g, cap, cur, rfl, hb, hgb, _⟩
  · simp [Value.ownBlock] at hj
  · obtain rfl : g = j := by simpa [Value.ownBlock] using hj
    exact ⟨hb, cur, hgb⟩
/-- What a round keeps that writes the box b and a row of its own: what lay below n but b, and from n on what is no cells of type E. -/
def keepM (E n b : Nat) (k : Nat) (o : Obj) : Prop := (k < n ∧ k ≠ b) ∨ (n ≤ k ∧ notE E o = true)
theorem keep_push {E n b : Nat} {A B : World} {v : Value} {xs : List Int} (ho : Own E A n v xs) (hg : A.grownBy B v.ownBlock) (hb : b < n) (v' : Value) : Keeps (keepM E n b) A (B.setCell ⟨b, 0, none⟩ v') :=
  (Keeps.of_grown hg (fun j o hj hjo hm => by
    obtain ⟨h1, cur, h2⟩ := own_cells ho hj
    rw [h2] at hjo; cases hjo
    rcases hm with hm | hm
    · omega
    · simp [notE] at hm)).trans (Keeps.set _ _ (fun o hm => by rcases hm with hm | hm <;> omega))
end Go.Proofs.Ytljdkckoelgkbaa
