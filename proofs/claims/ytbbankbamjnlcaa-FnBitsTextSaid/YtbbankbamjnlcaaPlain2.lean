/-
  What FlipBits, DifferingBits, BitsText and ReadBits compute, as plain functions on lists, and plain facts on these. No program is named here.
-/
import Derived.Test.YtbbankbamjnlcaaPlain
namespace Go.Proofs.Ytbbankbamjnlcaa

/-- The index ahead of number k, or -1. -/
def prev (ids : List Int) (k : Nat) : Int := if k = 0 then -1 else ids.getD (k - 1) 0
def stepOk (n : Int) (ids : List Int) (i : Nat) : Prop := prev ids i < ids.getD i 0 ∧ ids.getD i 0 < n
instance (n : Int) (ids : List Int) (i : Nat) : Decidable (stepOk n ids i) := by unfold stepOk; infer_instance
/-- Strictly increasing indices below n. -/
def rises (n : Int) (ids : List Int) : Bool := decide (∀ i, i < ids.length → stepOk n ids i)
theorem rises_yes {n : Int} {ids : List Int} (h : ∀ i, i < ids.length → stepOk n ids i) : rises n ids = true := decide_eq_true h
theorem rises_no {n : Int} {ids : List Int} {k : Nat} (hk : k < ids.length) (h : ¬ stepOk n ids k) : rises n ids = false := decide_eq_false fun hh => h (hh k hk)
theorem rises_iff {n : Int} {ids : List Int} : rises n ids = true ↔ ∀ i, i < ids.length → stepOk n ids i := by simp [rises]
theorem prev_zero (ids : List Int) : prev ids 0 = -1 := rfl
theorem prev_succ (ids : List Int) (k : Nat) : prev ids (k + 1) = ids.getD k 0 := by simp [prev]
theorem prev_low {n : Int} {ids : List Int} {k : Nat} (h : ∀ i, i < k → stepOk n ids i) : -1 ≤ prev ids k := by
  induction k with
  | zero => simp [prev]
  | succ k ih =>
    have h1 := ih fun i hi => h i (by omega)
    have h2 := (h k (by omega)).1
    rw [prev_succ]; omega
theorem prev_nonneg {n : Int} {ids : List Int} {k : Nat} (h : ∀ i, i < k + 1 → stepOk n ids i) : 0 ≤ prev ids (k + 1) := by
  have h1 := prev_low (k := k) fun i hi => h i (by omega)
  have h2 := (h k (by omega)).1
  rw [prev_succ]; omega
theorem stepOk_succ {n : Int} {ids : List Int} {k : Nat} (h : ∀ i, i < k → stepOk n ids i) (hk : stepOk n ids k) : ∀ i, i < k + 1 → stepOk n ids i := fun i hi => by
  rcases Nat.lt_succ_iff_lt_or_eq.1 hi with h1 | rfl
  · exact h i h1
  · exact hk

def flips (xs ids : List Int) : List Int := ids.foldl (fun ys i => ys.set i.toNat (1 - ys.getD i.toNat 0)) xs
theorem flips_snoc (xs ids : List Int) (i : Int) : flips xs (ids ++ [i]) = (flips xs ids).set i.toNat (1 - (flips xs ids).getD i.toNat 0) := by simp [flips, List.foldl_append]
theorem flips_len (xs ids : List Int) : (flips xs ids).length = xs.length := by
  unfold flips
  induction ids generalizing xs with
  | nil => rfl
  | cons i ids ih => rw [List.foldl_cons, ih]; simp
theorem getD_mem {xs : List Int} {k : Nat} (h : k < xs.length) : xs.getD k 0 ∈ xs := by
  rw [List.getD, List.getElem?_eq_getElem h]; exact List.getElem_mem h
theorem flips_bits (xs ids : List Int) (h : ∀ x ∈ xs, 0 ≤ x ∧ x ≤ 1) : ∀ x ∈ flips xs ids, 0 ≤ x ∧ x ≤ 1 := by
  unfold flips
  induction ids generalizing xs with
  | nil => exact h
  | cons i ids ih =>
    rw [List.foldl_cons]
    refine ih _ fun x hx => ?_
    rcases List.mem_or_eq_of_mem_set hx with h1 | rfl
    · exact h x h1
    · by_cases hi : i.toNat < xs.length
      · have := h _ (getD_mem hi); omega
      · have : xs.getD i.toNat 0 = 0 := by simp [List.getD, List.getElem?_eq_none (Nat.le_of_not_lt hi)]
        omega
def flipBits (xs ids : List Int) : List Int × Int := if isBits xs = false then ([], 1) else if rises xs.length ids = false then ([], 2) else (flips xs ids, 0)
theorem flipBits_len (xs ids : List Int) : (flipBits xs ids).1.length ≤ 8192 := by
  unfold flipBits
  split
  · simp
  · split
    · simp
    · rename_i h _
      have h := (isBits_iff.1 (by simpa using h)).1
      simp only [flips_len]; omega
theorem fb_1 {xs ids : List Int} (h : isBits xs = false) : flipBits xs ids = ([], 1) := by simp [flipBits, h]
theorem fb_2 {xs ids : List Int} (h : isBits xs = true) (h2 : rises xs.length ids = false) : flipBits xs ids = ([], 2) := by simp [flipBits, h, h2]
theorem fb_0 {xs ids : List Int} (h : isBits xs = true) (h2 : rises xs.length ids = true) : flipBits xs ids = (flips xs ids, 0) := by simp [flipBits, h, h2]

/-- The indices below k at which two lists differ. -/
def diffTo (xs ys : List Int) (k : Nat) : List Int := ((List.range k).filter fun i => xs.getD i 0 != ys.getD i 0).map fun (i : Nat) => (i : Int)
theorem diffTo_ne {xs ys : List Int} {k : Nat} (h : (xs.getD k 0 != ys.getD k 0) = true) : diffTo xs ys (k + 1) = diffTo xs ys k ++ [(k : Int)] := by
  simp only [diffTo, List.range_succ, List.filter_append, List.filter_cons, h, List.filter_nil, List.map_append]; rfl
theorem diffTo_eq {xs ys : List Int} {k : Nat} (h : (xs.getD k 0 != ys.getD k 0) = false) : diffTo xs ys (k + 1) = diffTo xs ys k := by
  simp only [diffTo, List.range_succ, List.filter_append, List.filter_cons, h, List.filter_nil, List.map_append]; simp
theorem diffTo_len (xs ys : List Int) (k : Nat) : (diffTo xs ys k).length ≤ k := by
  unfold diffTo
  rw [List.length_map]
  exact Nat.le_trans (List.length_filter_le _ _) (by simp)
def differingBits (xs ys : List Int) : List Int × Int := if isBits xs = false ∨ isBits ys = false then ([], 1) else if xs.length ≠ ys.length then ([], 5) else (diffTo xs ys xs.length, 0)
theorem differingBits_len (xs ys : List Int) : (differingBits xs ys).1.length ≤ 8192 := by
  unfold differingBits
  split
  · simp
  · split
    · simp
    · rename_i h _
      have h := (isBits_iff.1 (by simpa using (not_or.1 h).1)).1
      exact Nat.le_trans (diffTo_len _ _ _) h
theorem db_1a {xs ys : List Int} (h : isBits xs = false) : differingBits xs ys = ([], 1) := by simp [differingBits, h]
theorem db_1b {xs ys : List Int} (h : isBits ys = false) : differingBits xs ys = ([], 1) := by simp [differingBits, h]
theorem db_5 {xs ys : List Int} (h : isBits xs = true) (h' : isBits ys = true) (h2 : xs.length ≠ ys.length) : differingBits xs ys = ([], 5) := by simp [differingBits, h, h', h2]
theorem db_0 {xs ys : List Int} (h : isBits xs = true) (h' : isBits ys = true) (h2 : xs.length = ys.length) : differingBits xs ys = (diffTo xs ys xs.length, 0) := by simp [differingBits, h, h', h2]
end Go.Proofs.Ytbbankbamjnlcaa
