/-
  Chapter 12: what the program's reader takes, plainly; it is what the model's reader reads. No program is named here.
-/
import Derived.Test.YtggnoeeaoligdaaSl1
namespace Go.Proofs.Ytggnoeeaoligdaa

/-- An entry taken from the front, and what is left. -/
def pSl (ys : List Int) : Option (Sl × List Int) :=
  if ys.length < 7 then none else
    if (descFrom ((ys.drop 2).take 5)).2 = 0 then some (⟨ys.getD 0 0 / 16, ys.getD 0 0 % 16, ys.getD 1 0, (descFrom ((ys.drop 2).take 5)).1⟩, ys.drop 7) else none
def pSls (ys : List Int) : Nat → Option (List Sl × List Int)
  | 0 => some ([], ys)
  | k + 1 => (pSls ys k).bind fun p => (pSl p.2).map fun q => (p.1 ++ [q.1], q.2)
def pSlots (xs : List Int) : Option (List Sl × List Int) :=
  if xs.length < 1 then none else (pSls (xs.drop 1) (xs.getD 0 0).toNat).bind fun p => if isSls p.1 = true then some p else none
theorem dropS (xs : List Int) (a i : Nat) : (xs.drop a).getD i 0 = xs.getD (a + i) 0 := by simp [List.getD, List.getElem?_drop]
theorem pSl_at (xs : List Int) (a : Nat) : match pSl (xs.drop a) with
    | none => slAt xs a = none ∨ xs.length < a + 7
    | some q => slAt xs a = some q.1 ∧ q.2 = xs.drop (a + 7) ∧ a + 7 ≤ xs.length := by
  unfold pSl slAt
  simp only [List.drop_drop, List.length_drop, dropS, Nat.add_zero]
  by_cases h1 : xs.length - a < 7
  · rw [if_pos h1]; simp only; exact .inr (by omega)
  rw [if_neg h1]
  by_cases h2 : (descFrom ((xs.drop (a + 2)).take 5)).2 = 0
  · rw [if_pos h2, if_pos h2]
    exact ⟨rfl, rfl, by omega⟩
  · rw [if_neg h2, if_neg h2]
    exact .inl rfl
theorem pSls_at (xs : List Int) (h : 1 ≤ xs.length) : ∀ k, match pSls (xs.drop 1) k with
    | none => slsTo xs k = none ∨ xs.length < 1 + 7 * k
    | some q => slsTo xs k = some q.1 ∧ q.2 = xs.drop (1 + 7 * k) ∧ 1 + 7 * k ≤ xs.length
  | 0 => ⟨rfl, rfl, h⟩
  | k + 1 => by
    have ih := pSls_at xs h k
    rw [pSls, slsTo]
    rcases hp : pSls (xs.drop 1) k with _ | ⟨t, r⟩
    · rw [hp] at ih
      simp only at ih
      rcases ih with ih | ih
      · rw [ih]; exact .inl rfl
      · exact .inr (by omega)
    · rw [hp] at ih
      simp only at ih
      obtain ⟨h1, h2, h3⟩ := ih
      rw [h1]
      simp only [Option.bind_some]
      have ha := pSl_at xs (1 + 7 * k)
      rw [← h2] at ha
      rcases hq : pSl r with _ | ⟨x, r2⟩
      · rw [hq] at ha
        simp only at ha
        rcases ha with ha | ha
        · rw [ha]; exact .inl rfl
        · exact .inr (by omega)
      · rw [hq] at ha
        simp only at ha
        obtain ⟨e1, e2, e3⟩ := ha
        rw [e1]
        exact ⟨rfl, e2, by omega⟩
theorem pSlots_eq (xs : List Int) : readSlots xs = (pSlots xs).map fun p => (p.1, xs.length - p.2.length) := by
  unfold readSlots pSlots
  by_cases h0 : xs.length = 0
  · rw [if_pos (.inl h0), if_pos (by omega)]; rfl
  rw [if_neg (show ¬ xs.length < 1 by omega)]
  have h := pSls_at xs (by omega) (xs.getD 0 0).toNat
  rcases hp : pSls (xs.drop 1) (xs.getD 0 0).toNat with _ | ⟨t, r⟩
  · rw [hp] at h
    simp only at h
    rcases h with h | h
    · by_cases h1 : xs.length < 1 + 7 * (xs.getD 0 0).toNat
      · rw [if_pos (.inr h1)]; rfl
      · rw [if_neg (fun hc => hc.elim h0 h1), h]; rfl
    · rw [if_pos (.inr h)]; rfl
  · rw [hp] at h
    simp only at h
    obtain ⟨h1, h2, h3⟩ := h
    rw [if_neg (fun hc => hc.elim h0 (fun h4 => by omega)), h1]
    simp only [Option.bind_some]
    rcases isSls t with _ | _
    · rfl
    · simp only [if_true, Option.map_some]
      rw [h2, List.length_drop]
      congr 2
      omega
theorem pSl_small {ys : List Int} {q : Sl × List Int} (h : pSl ys = some q) : q.2.length ≤ ys.length := by
  unfold pSl at h
  split at h
  · cases h
  split at h
  · cases h
    simp only [List.length_drop]
    omega
  · cases h
theorem pSls_len {ys : List Int} : ∀ {k : Nat} {t : List Sl} {r : List Int}, pSls ys k = some (t, r) → t.length = k ∧ r.length ≤ ys.length
  | 0, t, r, h => by cases h; exact ⟨rfl, Nat.le_refl _⟩
  | k + 1, t, r, h => by
    rw [pSls] at h
    obtain ⟨p, h1, h2⟩ := Option.bind_eq_some_iff.1 h
    obtain ⟨q, h3, h4⟩ := Option.map_eq_some_iff.1 h2
    obtain ⟨g1, g2⟩ := pSls_len (t := p.1) (r := p.2) h1
    have k2 := pSl_small h3
    cases h4
    exact ⟨by rw [List.length_append, g1]; rfl, by omega⟩
theorem pSls_none {ys : List Int} {k : Nat} (h : pSls ys k = none) : ∀ j, pSls ys (k + j) = none
  | 0 => h
  | j + 1 => by rw [← Nat.add_assoc, pSls, pSls_none h j]; rfl
theorem pSlots_none {xs : List Int} {k : Nat} (h0 : ¬ xs.length < 1) (h : pSls (xs.drop 1) k = none) (hk : k ≤ (xs.getD 0 0).toNat) : pSlots xs = none := by
  have h1 := pSls_none h ((xs.getD 0 0).toNat - k)
  rw [show k + ((xs.getD 0 0).toNat - k) = (xs.getD 0 0).toNat from by omega] at h1
  unfold pSlots
  rw [if_neg h0, h1]; rfl
theorem pSlots_tab {xs : List Int} {t : List Sl} {r : List Int} (h0 : ¬ xs.length < 1) (h : pSls (xs.drop 1) (xs.getD 0 0).toNat = some (t, r)) : pSlots xs = if isSls t = true then some (t, r) else none := by
  unfold pSlots
  rw [if_neg h0, h]; rfl
theorem pSlots_short {xs : List Int} (h0 : xs.length < 1) : pSlots xs = none := by unfold pSlots; rw [if_pos h0]
theorem pSlots_rest {xs : List Int} {t : List Sl} {r : List Int} (h : pSlots xs = some (t, r)) : r.length ≤ xs.length ∧ isSls t = true := by
  unfold pSlots at h
  split at h
  · cases h
  obtain ⟨p, h1, h2⟩ := Option.bind_eq_some_iff.1 h
  split at h2
  · rename_i hi
    cases h2
    have := (pSls_len h1).2
    rw [List.length_drop] at this
    exact ⟨by omega, hi⟩
  · cases h2
def fillS (t : List Sl) (n : Nat) : List Sl := t ++ List.replicate (n - t.length) Sl.zero
theorem fillS_len {t : List Sl} {n : Nat} (h : t.length ≤ n) : (fillS t n).length = n := by unfold fillS; rw [List.length_append, List.length_replicate]; omega
theorem fillS_set {t : List Sl} {n : Nat} (h : t.length < n) (x : Sl) : (fillS t n).set t.length x = fillS (t ++ [x]) n := by
  unfold fillS
  rw [List.set_append_right _ _ (Nat.le_refl _), Nat.sub_self, show n - t.length = (n - (t ++ [x]).length) + 1 from by rw [List.length_append, List.length_singleton]; omega, List.replicate_succ, List.set_cons_zero]
  simp
theorem fillS_full {t : List Sl} : fillS t t.length = t := by unfold fillS; simp
end Go.Proofs.Ytggnoeeaoligdaa
