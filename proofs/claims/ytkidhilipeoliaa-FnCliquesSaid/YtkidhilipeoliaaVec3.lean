/-
  Chapter 5: what its laws say of vectors: members, majorities, cliques, acknowledgements. No program is named here.
-/
import Derived.Test.YtkidhilipeoliaaVec2
namespace Go.Proofs.Ytkidhilipeoliaa

theorem isVec_iff {m : Int} : isVec m = true ↔ 0 ≤ m ∧ m ≤ 4294967295 := by simp [isVec, inR]
theorem isNode_iff {m : Int} : isNode m = true ↔ 0 ≤ m ∧ m ≤ 31 := by simp [isNode, inR]
theorem setN_back (m k : Nat) (b : Bool) : setN (setN m k b) k (m.testBit k) = m := by
  apply Nat.eq_of_testBit_eq
  intro j
  rw [setN_bit, setN_bit]
  by_cases e : j = k
  · subst e; simp
  · simp [e]
/-- Setting a node concerns this node alone. -/
theorem set_round {m k x : Int} {b : Bool} (h : setMember m k b = (x, 0)) : setMember x k (hasMember m k) = (m, 0) ∧ hasMember x k = b := by
  unfold setMember at h
  split at h
  · rename_i hv
    simp only [Bool.and_eq_true] at hv
    obtain ⟨hm, hk⟩ := hv
    have hm' := isVec_iff.1 hm
    have hk' := isNode_iff.1 hk
    obtain ⟨m, rfl⟩ := Int.eq_ofNat_of_zero_le hm'.1
    obtain ⟨k, rfl⟩ := Int.eq_ofNat_of_zero_le hk'.1
    simp only [Prod.mk.injEq, and_true, Int.toNat_natCast] at h
    subst h
    have hl := setN_lt (m := m) (k := k) (b := b) (by omega) (by omega)
    have hx : isVec ((setN m k b : Nat) : Int) = true := isVec_iff.2 (by omega)
    refine ⟨?_, ?_⟩
    · unfold setMember hasMember
      rw [hx, hk, hm, Int.toNat_natCast, Int.toNat_natCast, Int.toNat_natCast, if_pos (by rfl), Bool.true_and, Bool.true_and, setN_back]
    · unfold hasMember
      rw [hx, hk, Int.toNat_natCast, Int.toNat_natCast, setN_bit]
      simp
  · cases h
theorem members_round {m : Int} {xs : List Int} (h : membersOf m = (xs, 0)) : vectorOf xs = (m, 0) := by
  unfold membersOf at h
  split at h
  · rename_i hm
    have hm' := isVec_iff.1 hm
    obtain ⟨m, rfl⟩ := Int.eq_ofNat_of_zero_le hm'.1
    simp only [Prod.mk.injEq, and_true, Int.toNat_natCast] at h
    subst h
    exact vector_round (by omega)
  · cases h

theorem allIn_three' {a b c : Int} : allIn 4294967295 [a, b, c] = (isVec a && (isVec b && isVec c)) := by simp [allIn, isVec]
/-- What follows from a successor's vector. -/
theorem ack_round {own k f s x : Int} (h : acknowledgeBy own k f s = (x, 0)) : acknowledgeBy own k own s = (1, 0) ∧ ∃ wo, setMember own k false = (wo, 0) ∧ acknowledgeBy own k wo wo = (0, 0) := by
  unfold acknowledgeBy at h
  split at h
  · cases h
  · rename_i hv
    rw [Bool.not_eq_false, allIn_three'] at hv
    simp only [Bool.and_eq_true] at hv
    obtain ⟨⟨ho, hf, hs⟩, hk⟩ := hv
    split at h
    · cases h
    · rename_i hb
      rw [Bool.not_eq_false] at hb
      have ho' := isVec_iff.1 ho
      have hk' := isNode_iff.1 hk
      obtain ⟨own, rfl⟩ := Int.eq_ofNat_of_zero_le ho'.1
      obtain ⟨k, rfl⟩ := Int.eq_ofNat_of_zero_le hk'.1
      rw [Int.toNat_natCast, Int.toNat_natCast] at hb
      have hl := setN_lt (m := own) (k := k) (b := false) (by omega) (by omega)
      have hw : isVec ((setN own k false : Nat) : Int) = true := isVec_iff.2 (by omega)
      have hne : ((setN own k false : Nat) : Int) ≠ (own : Int) := by
        intro e
        have e' : setN own k false = own := by omega
        have := setN_bit own k k false
        rw [e', hb, if_pos rfl] at this
        cases this
      refine ⟨?_, ((setN own k false : Nat) : Int), ?_, ?_⟩
      · unfold acknowledgeBy
        rw [allIn_three', ho, hs, hk, if_neg (by simp), Int.toNat_natCast, Int.toNat_natCast, hb, if_neg (by simp), if_pos rfl]
      · unfold setMember
        rw [ho, hk, Int.toNat_natCast, Int.toNat_natCast, if_pos (by rfl)]
      · unfold acknowledgeBy
        rw [allIn_three', ho, hw, hk, if_neg (by simp), Int.toNat_natCast, Int.toNat_natCast, hb, if_neg (by simp), if_neg hne, if_pos ⟨rfl, rfl⟩]

theorem placesTo_count (xs : List Int) (x : Int) (k : Nat) (hk : k ≤ xs.length) : (placesTo xs x k).length = (xs.take k).count x := by
  induction k with
  | zero => simp [placesTo]
  | succ k ih =>
    rw [placesTo_succ, take_succ' xs k (by omega), List.count_append, ← ih (by omega)]
    by_cases h : xs.getD k 0 = x
    · rw [if_pos h, h, List.length_append]; simp
    · rw [if_neg h]
      have h2 : List.count x [xs.getD k 0] = 0 := by rw [List.count_eq_zero]; simpa using fun e => h e.symm
      rw [h2]; rfl
theorem placesTo_mem (xs : List Int) (x : Int) (n k : Nat) (hk : k < n) : ((k : Int) ∈ placesTo xs x n) ↔ xs.getD k 0 = x := by
  unfold placesTo
  constructor
  · intro h
    obtain ⟨j, hj, e⟩ := List.mem_map.1 h
    have : j = k := by omega
    subst this
    simpa using (List.mem_filter.1 hj).2
  · intro h
    exact List.mem_map.2 ⟨k, List.mem_filter.2 ⟨List.mem_range.2 hk, by simpa using h⟩, rfl⟩
theorem countN_most {xs : List Int} {x : Int} (hx : xs.length < 2 * xs.count x) (j : Nat) : decide (xs.length < 2 * countN xs j) = x.toNat.testBit j := by
  have h0 : xs.length = xs.countP (fun y => y.toNat.testBit j) + xs.countP (fun y => !y.toNat.testBit j) := by
    have := List.length_eq_countP_add_countP (fun y : Int => y.toNat.testBit j) (l := xs)
    rw [this]
    congr 1
    apply List.countP_congr
    intro y _
    simp
  have hc : xs.count x = xs.countP (fun y => y == x) := rfl
  unfold countN
  cases hb : x.toNat.testBit j
  · have h1 : xs.countP (fun y => y == x) ≤ xs.countP (fun y => !y.toNat.testBit j) := List.countP_mono_left (fun y _ h => by
      have : y = x := by simpa using h
      subst this
      simp [hb])
    rw [decide_eq_false_iff_not]
    omega
  · have h1 : xs.countP (fun y => y == x) ≤ xs.countP (fun y => y.toNat.testBit j) := List.countP_mono_left (fun y _ h => by
      have : y = x := by simpa using h
      subst this
      simp [hb])
    rw [decide_eq_true_eq]
    omega
theorem areVecs_elem {xs : List Int} (h : areVecs xs = true) {k : Nat} (hk : k < xs.length) : 0 ≤ xs.getD k 0 ∧ xs.getD k 0 ≤ 4294967295 := by
  simp only [areVecs, within, Bool.and_eq_true] at h
  exact allIn_iff.1 h.2 _ (getD_mem' hk)
/-- A vector that more than half of the list has is the agreed one. -/
theorem agreed_round {xs : List Int} {v : Int} (h : agreedMembers xs = (v, 0)) : 1 ≤ xs.length ∧ xs.length ≤ 32 ∧ ∀ k : Nat, k < xs.length →
    cliqueOf xs k = (placesTo xs (xs.getD k 0) xs.length, 0) ∧ (k : Int) ∈ placesTo xs (xs.getD k 0) xs.length ∧ (xs.length < 2 * (placesTo xs (xs.getD k 0) xs.length).length → v = xs.getD k 0) := by
  unfold agreedMembers at h
  split at h
  · rename_i hv
    simp only [Bool.and_eq_true, decide_eq_true_eq] at hv
    obtain ⟨h1, ha⟩ := hv
    simp only [Prod.mk.injEq, and_true] at h
    have h32 : xs.length ≤ 32 := by
      simp only [areVecs, within, Bool.and_eq_true, decide_eq_true_eq] at ha; omega
    refine ⟨h1, h32, fun k hk => ⟨?_, (placesTo_mem xs _ _ k hk).2 rfl, fun hm => ?_⟩⟩
    · unfold cliqueOf
      rw [if_pos (by rw [ha, decide_eq_true (by omega : (0 : Int) ≤ (k : Int)), decide_eq_true (by omega : (k : Int) < (xs.length : Int))]; rfl), Int.toNat_natCast]
    · rw [placesTo_count xs _ _ (Nat.le_refl _), List.take_length] at hm
      have hb := areVecs_elem ha hk
      have e : agreedTo xs 32 = (xs.getD k 0).toNat := by
        refine bits_ext (agreedTo_lt xs 32 (Nat.le_refl _)) (by omega) (fun j hj => ?_)
        rw [agreedTo_bit, countN_most hm j]
        simp [hj]
      rw [← h, e]
      omega
  · cases h
/-- The nodes of a clique have the same clique. -/
theorem clique_round {xs out : List Int} {k : Int} (h : cliqueOf xs k = (out, 0)) : 1 ≤ xs.length ∧ xs.length ≤ 32 ∧ ∀ j : Nat, j < xs.length →
    ∃ more, cliqueOf xs j = (more, 0) ∧ more.length ≤ 32 ∧ decide (more = out) = decide ((j : Int) ∈ out) := by
  unfold cliqueOf at h
  split at h
  · rename_i hv
    simp only [Bool.and_eq_true, decide_eq_true_eq] at hv
    obtain ⟨ha, h0, h1⟩ := hv
    obtain ⟨k, rfl⟩ := Int.eq_ofNat_of_zero_le h0
    simp only [Prod.mk.injEq, and_true, Int.toNat_natCast] at h
    subst h
    have h32 : xs.length ≤ 32 := by
      simp only [areVecs, within, Bool.and_eq_true, decide_eq_true_eq] at ha; omega
    refine ⟨by omega, h32, fun j hj => ⟨_, ?_, Nat.le_trans (placesTo_len xs (xs.getD j 0) xs.length) h32, ?_⟩⟩
    · unfold cliqueOf
      rw [if_pos (by rw [ha, decide_eq_true (by omega : (0 : Int) ≤ (j : Int)), decide_eq_true (by omega : (j : Int) < (xs.length : Int))]; rfl), Int.toNat_natCast]
    · rw [decide_eq_decide, placesTo_mem xs _ _ j hj]
      constructor
      · intro e
        have : (j : Int) ∈ placesTo xs (xs.getD j 0) xs.length := (placesTo_mem xs _ _ j hj).2 rfl
        rw [e] at this
        exact (placesTo_mem xs _ _ j hj).1 this
      · intro e
        rw [e]
  · cases h
theorem maj_not (a r : Int) : (isMajority a r && isMajority r a) = false := by
  rw [Bool.and_eq_false_iff]
  simp only [isMajority, inR, Bool.and_eq_false_iff, decide_eq_false_iff_not]
  omega
end Go.Proofs.Ytkidhilipeoliaa
