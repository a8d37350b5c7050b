/-
  Chapter 11: what the program's reader takes, plainly; it is what the model's reader reads. No program is named here.
-/
import Derived.Test.YtpedlofckbplmaaMd1
namespace Go.Proofs.Ytpedlofckbplmaa

/-- An entry taken from the front, and what is left. -/
def pMd (ys : List Int) : Option (Md × List Int) :=
  if ys.length < 1 then none else if (ys.drop 1).length < 1 then none else if ((ys.drop 1).drop 1).length < 1 then none else
    if (((ys.drop 1).drop 1).drop 1).length < (((ys.drop 1).drop 1).getD 0 0).toNat then none else
      some (⟨ys.getD 0 0, (ys.drop 1).getD 0 0, (((ys.drop 1).drop 1).drop 1).take (((ys.drop 1).drop 1).getD 0 0).toNat⟩, (((ys.drop 1).drop 1).drop 1).drop (((ys.drop 1).drop 1).getD 0 0).toNat)
def pMds (ys : List Int) : Nat → Option (List Md × List Int)
  | 0 => some ([], ys)
  | k + 1 => (pMds ys k).bind fun p => (pMd p.2).map fun q => (p.1 ++ [q.1], q.2)
def pModes (xs : List Int) : Option (List Md × List Int) :=
  if xs.length < 1 then none else (pMds (xs.drop 1) (xs.getD 0 0).toNat).bind fun p => if isModes p.1 = true then some p else none
theorem dropD (xs : List Int) (a i : Nat) : (xs.drop a).getD i 0 = xs.getD (a + i) 0 := by simp [List.getD, List.getElem?_drop]
theorem pMd_at (xs : List Int) (a : Nat) : match pMd (xs.drop a) with
    | none => mdAt xs a = none
    | some q => ∃ b, mdAt xs a = some (q.1, b) ∧ q.2 = xs.drop b ∧ b ≤ xs.length := by
  unfold pMd
  simp only [List.drop_drop, List.length_drop, dropD, Nat.add_zero]
  rw [show a + (1 + 1) = a + 2 from by omega, show a + (1 + (1 + 1)) = a + 3 from by omega] <;> try skip
  by_cases h1 : xs.length - a < 1
  · rw [if_pos h1]; simp only; unfold mdAt; rw [if_neg (by omega)]
  rw [if_neg h1]
  by_cases h2 : xs.length - (a + 1) < 1
  · rw [if_pos h2]; simp only; unfold mdAt; rw [if_neg (by omega)]
  rw [if_neg h2]
  by_cases h3 : xs.length - (a + 2) < 1
  · rw [if_pos h3]; simp only; unfold mdAt; rw [if_neg (by omega)]
  rw [if_neg h3]
  by_cases h4 : xs.length - (a + 3) < (xs.getD (a + 2) 0).toNat
  · rw [if_pos h4]; simp only; unfold mdAt; rw [if_neg (by omega)]
  rw [if_neg h4]
  simp only
  refine ⟨a + 3 + (xs.getD (a + 2) 0).toNat, ?_, rfl, by omega⟩
  unfold mdAt
  rw [if_pos ⟨by omega, by omega⟩]
theorem pMds_at (xs : List Int) (h : 1 ≤ xs.length) : ∀ k, match pMds (xs.drop 1) k with
    | none => mdsTo xs k = none
    | some q => ∃ b, mdsTo xs k = some (q.1, b) ∧ q.2 = xs.drop b ∧ b ≤ xs.length
  | 0 => ⟨1, rfl, rfl, h⟩
  | k + 1 => by
    have ih := pMds_at xs h k
    rw [pMds, mdsTo]
    rcases hp : pMds (xs.drop 1) k with _ | ⟨t, r⟩
    · rw [hp] at ih
      simp only at ih
      rw [ih]
      rfl
    · rw [hp] at ih
      simp only at ih
      obtain ⟨b, h1, h2, h3⟩ := ih
      rw [h1]
      simp only [Option.bind_some]
      have ha := pMd_at xs b
      rw [← h2] at ha
      rcases hq : pMd r with _ | ⟨x, r2⟩
      · rw [hq] at ha
        simp only at ha
        rw [ha]
        rfl
      · rw [hq] at ha
        simp only at ha
        obtain ⟨b2, e1, e2, e3⟩ := ha
        rw [e1]
        exact ⟨b2, rfl, e2, e3⟩
theorem pModes_eq (xs : List Int) : readModes xs = (pModes xs).map fun p => (p.1, xs.length - p.2.length) := by
  unfold readModes pModes
  by_cases h0 : xs.length = 0
  · rw [if_pos h0, if_pos (by omega)]; rfl
  rw [if_neg h0, if_neg (by omega)]
  have h := pMds_at xs (by omega) (xs.getD 0 0).toNat
  rcases hp : pMds (xs.drop 1) (xs.getD 0 0).toNat with _ | ⟨t, r⟩
  · rw [hp] at h
    simp only at h
    rw [h]
    rfl
  · rw [hp] at h
    simp only at h
    obtain ⟨b, h1, h2, h3⟩ := h
    rw [h1]
    simp only [Option.bind_some]
    rcases isModes t with _ | _
    · rfl
    · simp only [if_true, Option.map_some]
      rw [h2, List.length_drop]
      congr 2
      omega
theorem pMd_small {ys : List Int} {q : Md × List Int} (h : pMd ys = some q) : q.1.next.length ≤ ys.length ∧ q.2.length ≤ ys.length := by
  unfold pMd at h
  split at h
  · cases h
  split at h
  · cases h
  split at h
  · cases h
  split at h
  · cases h
  cases h
  simp only [List.length_take, List.length_drop]
  omega
theorem pMds_len {ys : List Int} : ∀ {k : Nat} {t : List Md} {r : List Int}, pMds ys k = some (t, r) → t.length = k ∧ r.length ≤ ys.length ∧ ∀ x ∈ t, x.next.length ≤ ys.length
  | 0, t, r, h => by cases h; exact ⟨rfl, Nat.le_refl _, fun _ h => by cases h⟩
  | k + 1, t, r, h => by
    rw [pMds] at h
    obtain ⟨p, h1, h2⟩ := Option.bind_eq_some_iff.1 h
    obtain ⟨q, h3, h4⟩ := Option.map_eq_some_iff.1 h2
    obtain ⟨g1, g2, g3⟩ := pMds_len (t := p.1) (r := p.2) h1
    obtain ⟨k1, k2⟩ := pMd_small h3
    cases h4
    refine ⟨by rw [List.length_append, g1]; rfl, by omega, fun x hx => ?_⟩
    rcases List.mem_append.1 hx with hx | hx
    · exact g3 x hx
    · rw [List.mem_singleton] at hx
      subst hx
      omega
theorem pMds_none {ys : List Int} {k : Nat} (h : pMds ys k = none) : ∀ j, pMds ys (k + j) = none
  | 0 => h
  | j + 1 => by rw [← Nat.add_assoc, pMds, pMds_none h j]; rfl
theorem pModes_none {xs : List Int} {k : Nat} (h0 : ¬ xs.length < 1) (h : pMds (xs.drop 1) k = none) (hk : k ≤ (xs.getD 0 0).toNat) : pModes xs = none := by
  have h1 := pMds_none h ((xs.getD 0 0).toNat - k)
  rw [show k + ((xs.getD 0 0).toNat - k) = (xs.getD 0 0).toNat from by omega] at h1
  unfold pModes
  rw [if_neg h0, h1]; rfl
theorem pModes_tab {xs : List Int} {t : List Md} {r : List Int} (h0 : ¬ xs.length < 1) (h : pMds (xs.drop 1) (xs.getD 0 0).toNat = some (t, r)) : pModes xs = if isModes t = true then some (t, r) else none := by
  unfold pModes
  rw [if_neg h0, h]; rfl
theorem pModes_rest {xs : List Int} {t : List Md} {r : List Int} (h : pModes xs = some (t, r)) : r.length ≤ xs.length ∧ isModes t = true := by
  unfold pModes at h
  split at h
  · cases h
  obtain ⟨p, h1, h2⟩ := Option.bind_eq_some_iff.1 h
  split at h2
  · rename_i hi
    cases h2
    have := (pMds_len h1).2.1
    rw [List.length_drop] at this
    exact ⟨by omega, hi⟩
  · cases h2
end Go.Proofs.Ytpedlofckbplmaa
