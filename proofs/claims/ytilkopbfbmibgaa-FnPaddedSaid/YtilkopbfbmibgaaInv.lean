/-
  A region that draws its order, walked once: an invariant that every operation keeps whenever it is its turn. No program is named here.
-/
import Derived.Test.YtilkopbfbmibgaaBase
import Derived.Orders
namespace Go.Proofs.Ytilkopbfbmibgaa
open Go.RowKit

/-- How many of the first n operations are still open. -/
def openN (n : Nat) (listed : Array Bool) : Nat := ((List.range n).filter fun i => !listed.getD i true).length
/-- Operation j has been done. -/
def fl (listed : Array Bool) (j : Nat) : Bool := listed.getD j false
theorem filter_less {p q : Nat → Bool} {i : Nat} (hpq : ∀ j, q j = true → p j = true) (hp : p i = true) (hq : q i = false) : ∀ l : List Nat, i ∈ l → (l.filter q).length < (l.filter p).length := by
  have hle : ∀ l : List Nat, (l.filter q).length ≤ (l.filter p).length := fun l => by
    rw [← List.countP_eq_length_filter, ← List.countP_eq_length_filter]
    exact List.countP_mono_left (fun j _ h => hpq j h)
  intro l
  induction l with
  | nil => intro h; cases h
  | cons j l ih =>
    intro h
    by_cases e : i = j
    · subst e
      rw [List.filter_cons_of_neg (by simp [hq]), List.filter_cons_of_pos hp, List.length_cons]
      exact Nat.lt_succ_of_le (hle l)
    · have h' : i ∈ l := by
        rcases List.mem_cons.1 h with h | h
        · exact absurd h e
        · exact h
      have := ih h'
      by_cases hj : q j = true
      · rw [List.filter_cons_of_pos hj, List.filter_cons_of_pos (hpq j hj), List.length_cons, List.length_cons]; omega
      · rw [List.filter_cons_of_neg hj]
        by_cases hj' : p j = true
        · rw [List.filter_cons_of_pos hj', List.length_cons]; omega
        · rw [List.filter_cons_of_neg hj']; exact this
theorem getD_set (listed : Array Bool) (i j : Nat) (d : Bool) (hi : i < listed.size) : (listed.setIfInBounds i true).getD j d = if i = j then true else listed.getD j d := by
  rw [Array.getD_eq_getD_getElem?, Array.getD_eq_getD_getElem?, Array.getElem?_setIfInBounds]
  by_cases e : i = j
  · subst e; simp [hi]
  · simp [e]
theorem size_of_open {listed : Array Bool} {i : Nat} (h : listed.getD i true = false) : i < listed.size := by
  rw [Array.getD_eq_getD_getElem?] at h
  by_cases hi : i < listed.size
  · exact hi
  · rw [Array.getElem?_eq_none (by omega)] at h; cases h
theorem openN_set {n i : Nat} {listed : Array Bool} (hi : i < n) (h : listed.getD i true = false) : openN n (listed.setIfInBounds i true) < openN n listed := by
  have hs := size_of_open h
  refine filter_less (i := i) (fun j hj => ?_) (by simp [h]) ?_ _ (List.mem_range.2 hi)
  · rw [getD_set _ _ _ _ hs] at hj
    by_cases e : i = j
    · simp [e] at hj
    · simpa [e] using hj
  · rw [getD_set _ _ _ _ hs]; simp
theorem fl_set {listed : Array Bool} {i : Nat} (h : listed.getD i true = false) (j : Nat) : fl (listed.setIfInBounds i true) j = if i = j then true else fl listed j := getD_set _ _ _ _ (size_of_open h)
theorem ready_mem {ops : Array Oper} {listed : Array Bool} {i : Nat} (h : i ∈ Region.ready .any ops listed) :
    i < ops.size ∧ listed.getD i true = false ∧ ((ops[i]?).map (·.after.all fun e => !Region.binds .any e || fl listed e.on)).getD false = true := by
  unfold Region.ready at h
  rw [List.mem_filter, List.mem_range] at h
  simp only [Bool.and_eq_true, Bool.not_eq_true'] at h
  exact ⟨h.1, h.2.1, h.2.2⟩
/-- Where no operation is ready, all are done, if each one's edges lead to earlier ones. -/
theorem ready_nil {ops : Array Oper} {listed : Array Bool} (hed : ((List.range ops.size).all fun i => ((ops[i]?).map (·.after.all fun e => !Region.binds .any e || decide (e.on < i))).getD true) = true) (hsz : listed.size = ops.size)
    (h : Region.ready .any ops listed = []) : ∀ i, i < ops.size → fl listed i = true := by
  intro i
  induction i using Nat.strongRecOn with
  | ind i ih =>
    intro hi
    have hn : i ∉ Region.ready .any ops listed := by rw [h]; simp
    have he := (List.all_eq_true.1 hed) i (List.mem_range.2 hi)
    rw [Array.getElem?_eq_getElem hi] at he
    simp only [Option.map_some, Option.getD_some, Array.all_eq_true_iff_forall_mem, Bool.or_eq_true, decide_eq_true_eq] at he
    unfold Region.ready at hn
    rw [List.mem_filter, List.mem_range, Array.getElem?_eq_getElem hi] at hn
    have ha : (ops[i].after.all fun e => !Region.binds .any e || listed.getD e.on false) = true := by
      rw [Array.all_eq_true_iff_forall_mem]
      intro e hm
      rcases he e hm with h1 | h1
      · rw [h1]; rfl
      · have h2 := ih e.on h1 (by omega)
        unfold fl at h2
        rw [h2]; simp
    simp only [Option.map_some, Option.getD_some, ha, Bool.and_true] at hn
    have h3 : listed.getD i true = true := by
      cases hl : listed.getD i true
      · exact absurd ⟨hi, by rw [hl]; rfl⟩ hn
      · rfl
    unfold fl
    rw [Array.getD_eq_getD_getElem?, Array.getElem?_eq_getElem (by omega)] at h3 ⊢
    exact h3
theorem wpAny_inv {P : Program} {ops : Array Oper} {Q : Exit → Act → World → Prop} (I : Array Bool → Act → World → Prop)
    (hstep : ∀ listed a w, I listed a w → ∀ i ∈ Region.ready .any ops listed, ∀ K : Act → World → Prop, (∀ a' w', I (listed.setIfInBounds i true) a' w' → K a' w') → wpOp P ops Q i K a w)
    (hend : ∀ listed a w, I listed a w → Region.ready .any ops listed = [] → Q .normal a w) :
    ∀ fuel listed a w, openN ops.size listed ≤ fuel → I listed a w → wpAny P .any ops Q fuel listed a w := by
  intro fuel
  induction fuel with
  | zero =>
    intro listed a w hf hI
    have hr : Region.ready .any ops listed = [] := by
      cases hr : Region.ready .any ops listed with
      | nil => rfl
      | cons i l =>
        have hi : i ∈ Region.ready .any ops listed := by rw [hr]; simp
        obtain ⟨h1, h2, _⟩ := ready_mem hi
        have := openN_set h1 h2
        omega
    exact ⟨hr, hend _ _ _ hI hr⟩
  | succ fuel ih =>
    intro listed a w hf hI
    refine ⟨fun hr => hend _ _ _ hI hr, fun i hi => ?_⟩
    obtain ⟨h1, h2, _⟩ := ready_mem hi
    have := openN_set h1 h2
    exact hstep listed a w hI i hi _ (fun a' w' hI' => ih _ a' w' (by omega) hI')
theorem wpOp_of {P : Program} {ops : Array Oper} {Q : Exit → Act → World → Prop} {i : Nat} {o : Oper} {K : Act → World → Prop} {a : Act} {w : World} (ho : ops[i]? = some o) (hg : o.guard = none) (h : o.wp P a w K Q) : wpOp P ops Q i K a w := by
  unfold wpOp
  simp [ho, Region.wanted, hg, h]
end Go.Proofs.Ytilkopbfbmibgaa
