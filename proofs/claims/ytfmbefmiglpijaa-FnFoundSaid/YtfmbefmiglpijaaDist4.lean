/-
  How the program finds the first missed error: repeats of syndromes, and three ones whose syndromes cancel. No program is named here.
-/
import Derived.Test.YtfmbefmiglpijaaReg
namespace Go.Proofs.Ytfmbefmiglpijaa

section
variable {W : Nat} {g : BitVec W}
theorem tail_add (n m : Nat) : tail g (n + m) = fbs g (tail g n) (List.replicate m false) := by
  unfold tail
  rw [← List.replicate_append_replicate, fbs_append]
theorem tail_down (hg : g.getLsbD 0 = true) {d a : Nat} (h : tail g (d + a) = tail g a) : tail g d = g := by
  have h1 := tail_add (g := g) d a
  have h2 := tail_add (g := g) 0 a
  rw [Nat.zero_add] at h2
  rw [h1, h2] at h
  exact fbs_inj hg _ h
theorem tail_up {d : Nat} (h : tail g d = g) (m : Nat) : tail g (d + m) = tail g m := by
  rw [tail_add, h]; rfl
/-- No two of the first k syndromes are equal. -/
def Apart (g : BitVec W) (span k : Nat) : Prop := ∀ i j, i < j → j < k → synd g span i ≠ synd g span j
theorem apart_zero (span : Nat) : Apart g span 0 := fun i j _ h => absurd h (by omega)
theorem apart_succ {span k : Nat} (h : Apart g span k) (hk : ∀ i, i < k → synd g span i ≠ synd g span k) : Apart g span (k + 1) := fun i j h1 h2 => by
  by_cases e : j = k
  · rw [e]; exact hk i (by omega)
  · exact h i j h1 (by omega)
/-- The first repeat repeats that of the index 0, and is the first pair. -/
theorem repeat_first (hg : g.getLsbD 0 = true) {span i k : Nat} (hk : k < span) (hi : i < k) (ha : Apart g span k) (h : synd g span i = synd g span k) : find2 g span = some [(i : Int), (k : Int)] := by
  have hi0 : i = 0 := by
    refine Classical.byContradiction fun hne => ?_
    have h1 : synd g span 0 = synd g span (k - i) := by
      have hd : tail g (k - i) = g := by
        unfold synd at h
        rw [show span - 1 - i = (k - i) + (span - 1 - k) from by omega] at h
        exact tail_down hg h
      unfold synd
      rw [show span - 1 - 0 = (k - i) + (span - 1 - (k - i)) from by omega]
      exact tail_up hd _
    exact ha 0 (k - i) (by omega) (by omega) h1
  subst hi0
  unfold find2
  rw [first_some]
  refine ⟨0, Nat.le_refl _, by omega, ?_, fun j _ h => absurd h (by omega)⟩
  unfold find2At
  rw [first_some]
  refine ⟨k, by omega, by omega, by rw [if_pos h], fun j h1 h2 => ?_⟩
  rw [if_neg (ha 0 j (by omega) h2)]
theorem repeat_none {span : Nat} (ha : Apart g span span) : find2 g span = none := by
  unfold find2
  rw [first_none]
  intro i _ hi
  unfold find2At
  rw [first_none]
  intro k h1 h2
  rw [if_neg (ha i k (by omega) (by omega))]
/-- Up to the pair i, k (k excluded) no three ones are missed. -/
def NoThree (g : BitVec W) (span i k : Nat) : Prop := ∀ a b c, a < b → b < c → c < span → (a < i ∨ a = i ∧ b < k) → synd g span a ^^^ synd g span b ≠ synd g span c
theorem noThree_zero (span : Nat) : NoThree g span 0 1 := fun a b c h1 _ _ h => by omega
theorem noThree_succ {span i k : Nat} (h : NoThree g span i k) (hk : ∀ c, k < c → c < span → synd g span i ^^^ synd g span k ≠ synd g span c) : NoThree g span i (k + 1) := fun a b c h1 h2 h3 h4 => by
  by_cases e : a = i ∧ b = k
  · rw [e.1, e.2]; exact hk c (by omega) h3
  · exact h a b c h1 h2 h3 (by omega)
theorem noThree_row {span i : Nat} (h : NoThree g span i span) : NoThree g span (i + 1) (i + 1 + 1) := fun a b c h1 h2 h3 h4 => h a b c h1 h2 h3 (by omega)
theorem three_none {span : Nat} (h : NoThree g span span (span + 1)) : find3 g span = none := by
  unfold find3
  rw [first_none]
  intro i _ hi
  unfold find3At
  rw [first_none]
  intro k h1 h2
  unfold find3Of
  rw [first_none]
  intro j h3 h4
  rw [if_neg (h i k j (by omega) (by omega) (by omega) (.inl (by omega)))]
theorem three_some {span i k j : Nat} (h1 : i < k) (h2 : k < j) (h3 : j < span) (h : NoThree g span i k) (hj : ∀ c, k < c → c < j → synd g span i ^^^ synd g span k ≠ synd g span c) (he : synd g span i ^^^ synd g span k = synd g span j) :
    find3 g span = some [(i : Int), (k : Int), (j : Int)] := by
  unfold find3
  rw [first_some]
  refine ⟨i, Nat.zero_le _, by omega, ?_, fun a _ ha => ?_⟩
  · unfold find3At
    rw [first_some]
    refine ⟨k, by omega, by omega, ?_, fun b hb1 hb2 => ?_⟩
    · unfold find3Of
      rw [first_some]
      exact ⟨j, by omega, by omega, by rw [if_pos he], fun c hc1 hc2 => by rw [if_neg (hj c (by omega) hc2)]⟩
    · unfold find3Of
      rw [first_none]
      intro c hc1 hc2
      rw [if_neg (h i b c (by omega) (by omega) (by omega) (.inr ⟨rfl, hb2⟩))]
  · unfold find3At
    rw [first_none]
    intro b hb1 hb2
    unfold find3Of
    rw [first_none]
    intro c hc1 hc2
    rw [if_neg (h a b c (by omega) (by omega) (by omega) (.inl ha))]
/-- Up to the pair i, k (k excluded) no two ones are missed. -/
def NoPair (g : BitVec W) (span i k : Nat) : Prop := ∀ a b, a < b → b < span → (a < i ∨ a = i ∧ b < k) → synd g span a ≠ synd g span b
theorem noPair_zero (span : Nat) : NoPair g span 0 1 := fun a b h1 _ h => by omega
theorem noPair_succ {span i k : Nat} (h : NoPair g span i k) (hk : synd g span i ≠ synd g span k) : NoPair g span i (k + 1) := fun a b h1 h2 h3 => by
  by_cases e : a = i ∧ b = k
  · rw [e.1, e.2]; exact hk
  · exact h a b h1 h2 (by omega)
theorem noPair_row {span i : Nat} (h : NoPair g span i span) : NoPair g span (i + 1) (i + 1 + 1) := fun a b h1 h2 h3 => h a b h1 h2 (by omega)
theorem pair_none {span : Nat} (h : NoPair g span span (span + 1)) : find2 g span = none := by
  unfold find2
  rw [first_none]
  intro i _ hi
  unfold find2At
  rw [first_none]
  intro k h1 h2
  rw [if_neg (h i k (by omega) (by omega) (.inl (by omega)))]
theorem pair_some {span i k : Nat} (h1 : i < k) (h2 : k < span) (h : NoPair g span i k) (he : synd g span i = synd g span k) : find2 g span = some [(i : Int), (k : Int)] := by
  unfold find2
  rw [first_some]
  refine ⟨i, Nat.zero_le _, by omega, ?_, fun a _ ha => ?_⟩
  · unfold find2At
    rw [first_some]
    exact ⟨k, by omega, by omega, by rw [if_pos he], fun b hb1 hb2 => by rw [if_neg (h i b (by omega) (by omega) (.inr ⟨rfl, hb2⟩))]⟩
  · unfold find2At
    rw [first_none]
    intro b hb1 hb2
    rw [if_neg (h a b (by omega) (by omega) (.inl ha))]
theorem first_pair (hg : g.getLsbD 0 = true) {span : Nat} {l : List Int} (h : find2 g span = some l) : firstMissed g span = l := by
  unfold firstMissed; rw [find1_none hg, h]
theorem first_three (hg : g.getLsbD 0 = true) {span : Nat} {l : List Int} (h2 : find2 g span = none) (h : find3 g span = some l) : firstMissed g span = l := by
  unfold firstMissed; rw [find1_none hg, h2, h]
theorem first_nil (hg : g.getLsbD 0 = true) {span : Nat} (h2 : find2 g span = none) (h : find3 g span = none) : firstMissed g span = [] := by
  unfold firstMissed; rw [find1_none hg, h2, h]
theorem firstIn_snoc {α : Type} (p : Nat → Option α) : ∀ (n a : Nat), firstIn p a (n + 1) = match firstIn p a n with | some x => some x | none => p (a + n)
  | 0, a => by
    unfold firstIn
    simp only [Nat.add_zero]
    rcases p a with _ | x
    · rfl
    · rfl
  | n + 1, a => by
    rw [show firstIn p a (n + 1 + 1) = (match p a with | some x => some x | none => firstIn p (a + 1) (n + 1)) from rfl, firstIn_snoc p n (a + 1)]
    rw [show firstIn p a (n + 1) = (match p a with | some x => some x | none => firstIn p (a + 1) n) from rfl]
    rw [show a + 1 + n = a + (n + 1) from by omega]
    rcases p a with _ | x
    · rfl
    · rfl
/-- The index below k at which a syndrome stands. -/
def idxOf (g : BitVec W) (span k : Nat) (x : Int) : Option Int := firstIn (fun i => if ((synd g span i).toNat : Int) = x then some (i : Int) else none) 0 k
theorem idx_zero (span : Nat) : (fun _ => none) = idxOf g span 0 := rfl
theorem idx_none {span k : Nat} {x : Int} (h : idxOf g span k x = none) (i : Nat) (hi : i < k) : ((synd g span i).toNat : Int) ≠ x := by
  have := first_none.1 h i (Nat.zero_le _) (by omega)
  intro e
  rw [if_pos e] at this; cases this
theorem idx_some {span k : Nat} {x y : Int} (h : idxOf g span k x = some y) : ∃ l : Nat, l < k ∧ y = l ∧ ((synd g span l).toNat : Int) = x := by
  obtain ⟨l, -, hl, hp, -⟩ := first_some.1 h
  by_cases e : ((synd g span l).toNat : Int) = x
  · rw [if_pos e] at hp
    exact ⟨l, by omega, (Option.some.inj hp).symm, e⟩
  · rw [if_neg e] at hp; cases hp
theorem idx_succ {span k : Nat} (h : idxOf g span k ((synd g span k).toNat : Int) = none) : (fun z => if z = ((synd g span k).toNat : Int) then some (k : Int) else idxOf g span k z) = idxOf g span (k + 1) := by
  funext z
  have hs : idxOf g span (k + 1) z = (match idxOf g span k z with | some x => some x | none => if ((synd g span k).toNat : Int) = z then some (k : Int) else none) := by
    unfold idxOf
    rw [firstIn_snoc, Nat.zero_add]
    generalize firstIn (fun i => if ((synd g span i).toNat : Int) = z then some (i : Int) else none) 0 k = r
    cases r <;> rfl
  rw [hs]
  by_cases e : z = ((synd g span k).toNat : Int)
  · rw [if_pos e, e, h]; simp
  · rw [if_neg e, if_neg (fun h => e h.symm)]
    rcases idxOf g span k z with _ | y <;> rfl
theorem nat_eq {x y : BitVec W} (h : (x.toNat : Int) = (y.toNat : Int)) : x = y := BitVec.eq_of_toNat_eq (by omega)
theorem apart_of_idx {span k : Nat} (ha : Apart g span k) (h : idxOf g span k ((synd g span k).toNat : Int) = none) : Apart g span (k + 1) :=
  apart_succ ha fun i hi e => idx_none h i hi (by rw [e])
/-- No third one behind the pair: none stands there, or it stands ahead. -/
theorem no_third {span i k : Nat} (ha : Apart g span span) (h : ∀ y, idxOf g span span ((synd g span i ^^^ synd g span k).toNat : Int) = some y → y ≤ (k : Int)) : ∀ c, k < c → c < span → synd g span i ^^^ synd g span k ≠ synd g span c := by
  intro c h1 h2 e
  rcases hx : idxOf g span span ((synd g span i ^^^ synd g span k).toNat : Int) with _ | y
  · exact idx_none hx c h2 (by rw [e])
  · obtain ⟨l, hl, rfl, hs⟩ := idx_some hx
    have h3 := h _ hx
    have h4 : synd g span l = synd g span c := by rw [nat_eq hs, e]
    exact ha l c (by omega) h2 h4
theorem third_some {span i k l : Nat} (ha : Apart g span span) (h1 : i < k) (h2 : k < l) (h3 : l < span) (hn : NoThree g span i k) (he : ((synd g span l).toNat : Int) = ((synd g span i ^^^ synd g span k).toNat : Int)) : find3 g span = some [(i : Int), (k : Int), (l : Int)] :=
  three_some h1 h2 h3 hn (fun c _ hc e => ha c l hc h3 (by rw [← e, ← nat_eq he])) (nat_eq he).symm
/-- The list of syndromes, those from an index on filled in. -/
def syndFrom (g : BitVec W) (span k : Nat) : List Int := (List.range span).map fun i => if k ≤ i then ((synd g span i).toNat : Int) else 0
def syndAll (g : BitVec W) (span : Nat) : List Int := (List.range span).map fun i => ((synd g span i).toNat : Int)
theorem syndFrom_len (span k : Nat) : (syndFrom g span k).length = span := by simp [syndFrom]
theorem syndAll_len (span : Nat) : (syndAll g span).length = span := by simp [syndAll]
theorem syndAll_getD (span i : Nat) (h : i < span) : (syndAll g span).getD i 0 = ((synd g span i).toNat : Int) := by simp [syndAll, List.getD, h]
theorem syndFrom_top (span : Nat) : syndFrom g span span = List.replicate span 0 := by
  apply List.ext_getElem
  · simp [syndFrom]
  · intro i h1 h2
    have : i < span := by simpa [syndFrom] using h1
    simp [syndFrom]; omega
theorem syndFrom_zero (span : Nat) : syndFrom g span 0 = syndAll g span := by simp [syndFrom, syndAll]
theorem syndFrom_set (span k : Nat) : (syndFrom g span (k + 1)).set k (((synd g span k).toNat : Nat) : Int) = syndFrom g span k := by
  apply List.ext_getElem
  · simp [syndFrom]
  · intro i h1 h2
    rw [List.getElem_set]
    by_cases e : k = i
    · subst e; simp [syndFrom]
    · rw [if_neg e]
      simp only [syndFrom, List.getElem_map, List.getElem_range]
      by_cases c : k ≤ i
      · rw [if_pos c, if_pos (by omega)]
      · rw [if_neg c, if_neg (by omega)]
theorem synd_last (span : Nat) (h : 0 < span) : synd g span (span - 1) = g := by
  unfold synd; rw [show span - 1 - (span - 1) = 0 from by omega]; rfl
theorem synd_prev (span k : Nat) (h : k + 1 < span) : fb g (synd g span (k + 1)) false = synd g span k := by
  unfold synd
  rw [show span - 1 - k = (span - 1 - (k + 1)) + 1 from by omega, tail_succ]
end
end Go.Proofs.Ytfmbefmiglpijaa
