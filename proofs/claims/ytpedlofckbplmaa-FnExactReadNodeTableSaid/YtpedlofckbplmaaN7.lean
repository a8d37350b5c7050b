/-
  Chapter 10: ActiveVector and FindNode of the program and of its model.
-/
import Derived.Test.YtpedlofckbplmaaN6
namespace Go.Proofs.Ytpedlofckbplmaa
open Go.RowKit

theorem av_no {t : List Nd} (h : isTable t = false) : activeVector t = (0, 1) := by unfold activeVector; rw [if_neg (by rw [h]; simp)]
theorem av_yes {t : List Nd} (h : isTable t = true) : activeVector t = (((actTo t t.length : Nat) : Int), 0) := by unfold activeVector; rw [if_pos h]
theorem act_pas {t : List Nd} {k : Nat} (h : (ndOf t k).pas = true) : actTo t (k + 1) = actTo t k := by rw [actTo, if_pos h]
theorem act_act {t : List Nd} {k : Nat} (h : (ndOf t k).pas = false) : actTo t (k + 1) = setN (actTo t k) (ndOf t k).id.toNat true := by rw [actTo, if_neg (by rw [h]; simp)]
/-! ### FindNode -/
theorem fn_no {t : List Nd} {d : Int} (h : isTable t = false) : findNode t d = (Nd.zero, 1) := by unfold findNode; rw [if_neg (by rw [h]; simp)]
/-- None of the first k entries has the Id. -/
def noId (t : List Nd) (d : Int) (k : Nat) : Prop := ∀ i, i < k → (ndOf t i).id ≠ d
theorem noId_succ {t : List Nd} {d : Int} {k : Nat} (h : noId t d k) (h1 : (ndOf t k).id ≠ d) : noId t d (k + 1) := fun i hi => by
  by_cases e : i = k
  · subst e; exact h1
  · exact h i (by omega)
theorem find_hit : ∀ {t : List Nd} {d : Int} {k : Nat}, k < t.length → noId t d k → (ndOf t k).id = d → findIn t d = some (ndOf t k)
  | [], _, _, h, _, _ => by simp at h
  | x :: r, d, 0, _, _, e => by
    have e1 : x.id = d := e
    rw [findIn, if_pos e1]; rfl
  | x :: r, d, k + 1, h, hn, e => by
    have h0 := hn 0 (by omega)
    have e2 : ∀ j, ndOf (x :: r) (j + 1) = ndOf r j := fun j => by simp [ndOf]
    have h1 : noId r d k := fun i hi => by have := hn (i + 1) (by omega); rwa [e2] at this
    rw [e2] at e ⊢
    rw [findIn, if_neg (by simpa [ndOf] using h0)]
    exact find_hit (by simpa using h) h1 e
theorem find_miss : ∀ {t : List Nd} {d : Int}, noId t d t.length → findIn t d = none
  | [], _, _ => rfl
  | x :: r, d, h => by
    have h0 := h 0 (by simp)
    rw [findIn, if_neg (by simpa [ndOf] using h0)]
    refine find_miss fun i hi => ?_
    have := h (i + 1) (by simpa using hi)
    simpa [ndOf] using this
theorem fn_hit {t : List Nd} {d : Int} {k : Nat} (ht : isTable t = true) (h : k < t.length) (h1 : noId t d k) (e : (ndOf t k).id = d) : findNode t d = (ndOf t k, 0) := by
  unfold findNode; rw [if_pos ht, find_hit h h1 e]
theorem fn_miss {t : List Nd} {d : Int} (ht : isTable t = true) (h : noId t d t.length) : findNode t d = (Nd.zero, 4) := by
  unfold findNode; rw [if_pos ht, find_miss h]
def GivesNd (w : World) (r : Nd × Int) (e : Ending) (w' : World) : Prop := e = .returned (.tuple #[ndVal r.1, .int .i64 r.2]) ∧ Below w.heap.size w w'
end Go.Proofs.Ytpedlofckbplmaa
