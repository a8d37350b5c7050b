/-
  A region that draws its order within a round: an invariant that every operation keeps whenever it is its turn. No program is named here.
-/
import Derived.Test.YtckaknaeddiphaaRng
import Derived.Test.YtckaknaeddiphaaInv
namespace Go.Proofs.Ytckaknaeddiphaa
open Go.RowKit

theorem wpAnyIn_inv {F : Fence} {n : Nat} {P : Program} {ops : Array Oper} {Q : Exit → Act → World → Prop} (I : Array Bool → Act → World → Prop)
    (hstep : ∀ listed a w, I listed a w → ∀ i ∈ Region.ready .any ops listed, ∀ K : Act → World → Prop, (∀ a' w', I (listed.setIfInBounds i true) a' w' → K a' w') → wpOpIn F n P ops Q i K a w)
    (hend : ∀ listed a w, I listed a w → Region.ready .any ops listed = [] → Q .normal a w) :
    ∀ fuel listed a w, openN ops.size listed ≤ fuel → I listed a w → wpAnyIn F n P .any ops Q fuel listed a w := by
  intro fuel
  induction fuel with
  | zero =>
    intro listed a w hf hI
    have hr : Region.ready .any ops listed = [] := by
      cases hr : Region.ready .any ops listed with
      | nil => rfl
      | cons i l =>
        have hi : i ∈ Region.ready .any ops listed := by rw [hr]; simp
        obtain ⟨h1, h2, _⟩ := ready_mem hi
        have := openN_set h1 h2
        omega
    exact ⟨hr, hend _ _ _ hI hr⟩
  | succ fuel ih =>
    intro listed a w hf hI
    refine ⟨fun hr => hend _ _ _ hI hr, fun i hi => ?_⟩
    obtain ⟨h1, h2, _⟩ := ready_mem hi
    have := openN_set h1 h2
    exact hstep listed a w hI i hi _ (fun a' w' hI' => ih _ a' w' (by omega) hI')
theorem wpOpIn_of {F : Fence} {n : Nat} {P : Program} {ops : Array Oper} {Q : Exit → Act → World → Prop} {i : Nat} {o : Oper} {K : Act → World → Prop} {a : Act} {w : World} (ho : ops[i]? = some o) (hg : o.guard = none) (h : o.wpIn F n P a w K Q) : wpOpIn F n P ops Q i K a w := by
  unfold wpOpIn
  simp [ho, Region.wanted, hg, h]
/-- One more operation is done. -/
def upd (f : Nat → Bool) (i j : Nat) : Bool := if i = j then true else f j
theorem fl_upd {listed : Array Bool} {i : Nat} (h : listed.getD i true = false) : fl (listed.setIfInBounds i true) = upd (fl listed) i := funext fun j => fl_set h j
theorem fl_no {listed : Array Bool} {i : Nat} (h : listed.getD i true = false) : fl listed i = false := by
  have hs := size_of_open h
  unfold fl
  rw [Array.getD_eq_getD_getElem?, Array.getElem?_eq_getElem hs] at h ⊢
  exact h
end Go.Proofs.Ytckaknaeddiphaa
