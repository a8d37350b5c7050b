/-
  The plain functions of chapter 4, and what its laws say of them. No program is named here.
-/
import Derived.Test.YtkidhilipeoliaaDoorReg
namespace Go.Proofs.YtkidhilipeoliaaDoor

def inRange (lo hi x : Int) : Bool := decide (lo ≤ x) && decide (x ≤ hi)
/-- A valid state: Time, Mode, Round, Slot, Members. -/
def isState (t m r s k : Int) : Bool := inRange 0 65535 t && inRange 0 15 m && inRange 0 15 r && inRange 0 255 s && inRange 0 4294967295 k
theorem isState_iff {t m r s k : Int} : isState t m r s k = true ↔ (0 ≤ t ∧ t ≤ 65535) ∧ (0 ≤ m ∧ m ≤ 15) ∧ (0 ≤ r ∧ r ≤ 15) ∧ (0 ≤ s ∧ s ≤ 255) ∧ 0 ≤ k ∧ k ≤ 4294967295 := by
  simp only [isState, inRange, Bool.and_eq_true, decide_eq_true_eq]
  constructor
  · rintro ⟨⟨⟨⟨a, b⟩, c⟩, d⟩, e⟩; exact ⟨a, b, c, d, e⟩
  · rintro ⟨a, b, c, d, e⟩; exact ⟨⟨⟨⟨a, b⟩, c⟩, d⟩, e⟩
def stateBits (t m r s k : Int) : List Int := bitsOf t 16 ++ bitsOf m 4 ++ bitsOf r 4 ++ bitsOf s 8 ++ bitsOf k 32
theorem stateBits_len (t m r s k : Int) : (stateBits t m r s k).length = 64 := by simp [stateBits, bitsOf_len]
theorem stateBits_bits (t m r s k : Int) : ∀ x ∈ stateBits t m r s k, 0 ≤ x ∧ x ≤ 1 := by
  intro x hx
  simp only [stateBits, List.mem_append] at hx
  rcases hx with (((hx | hx) | hx) | hx) | hx <;> exact bitsOf_bits _ _ x hx
/-- The number that stands from an index on. -/
def numIn (xs : List Int) (a w : Nat) : Int := numOf ((xs.drop a).take w)
theorem part_of {xs ys zs : List Int} {a w : Nat} (h1 : xs.length = a) (h2 : ys.length = w) : ((xs ++ ys ++ zs).drop a).take w = ys := by
  rw [List.append_assoc, ← h1, List.drop_left, ← h2, List.take_left]
theorem stateBits_parts {t m r s k : Int} (h : isState t m r s k = true) : numIn (stateBits t m r s k) 0 16 = t ∧ numIn (stateBits t m r s k) 16 4 = m ∧ numIn (stateBits t m r s k) 20 4 = r ∧ numIn (stateBits t m r s k) 24 8 = s ∧ numIn (stateBits t m r s k) 32 32 = k := by
  obtain ⟨a1, a2, a3, a4, a5⟩ := isState_iff.1 h
  have n1 := numOf_bitsOf t 16 a1.1 (by omega)
  have n2 := numOf_bitsOf m 4 a2.1 (by omega)
  have n3 := numOf_bitsOf r 4 a3.1 (by omega)
  have n4 := numOf_bitsOf s 8 a4.1 (by omega)
  have n5 := numOf_bitsOf k 32 a5.1 (by omega)
  unfold numIn stateBits
  refine ⟨?_, ?_, ?_, ?_, ?_⟩
  · rw [show bitsOf t 16 ++ bitsOf m 4 ++ bitsOf r 4 ++ bitsOf s 8 ++ bitsOf k 32 = [] ++ bitsOf t 16 ++ (bitsOf m 4 ++ bitsOf r 4 ++ bitsOf s 8 ++ bitsOf k 32) from by simp, part_of (a := 0) rfl (bitsOf_len _ _), n1]
  · rw [show bitsOf t 16 ++ bitsOf m 4 ++ bitsOf r 4 ++ bitsOf s 8 ++ bitsOf k 32 = bitsOf t 16 ++ bitsOf m 4 ++ (bitsOf r 4 ++ bitsOf s 8 ++ bitsOf k 32) from by simp, part_of (bitsOf_len _ _) (bitsOf_len _ _), n2]
  · rw [show bitsOf t 16 ++ bitsOf m 4 ++ bitsOf r 4 ++ bitsOf s 8 ++ bitsOf k 32 = (bitsOf t 16 ++ bitsOf m 4) ++ bitsOf r 4 ++ (bitsOf s 8 ++ bitsOf k 32) from by simp, part_of (by simp [bitsOf_len]) (bitsOf_len _ _), n3]
  · rw [show bitsOf t 16 ++ bitsOf m 4 ++ bitsOf r 4 ++ bitsOf s 8 ++ bitsOf k 32 = (bitsOf t 16 ++ bitsOf m 4 ++ bitsOf r 4) ++ bitsOf s 8 ++ bitsOf k 32 from by simp, part_of (by simp [bitsOf_len]) (bitsOf_len _ _), n4]
  · rw [show bitsOf t 16 ++ bitsOf m 4 ++ bitsOf r 4 ++ bitsOf s 8 ++ bitsOf k 32 = (bitsOf t 16 ++ bitsOf m 4 ++ bitsOf r 4 ++ bitsOf s 8) ++ bitsOf k 32 ++ [] from by simp, part_of (by simp [bitsOf_len]) (bitsOf_len _ _), n5]
/-- A list of 64 bits is the bits of a valid state. -/
theorem numIn_bound (xs : List Int) (hb : ∀ x ∈ xs, 0 ≤ x ∧ x ≤ 1) (a w : Nat) (h : a + w ≤ xs.length) : 0 ≤ numIn xs a w ∧ numIn xs a w < 2 ^ w := by
  have hl : ((xs.drop a).take w).length = w := by rw [List.length_take, List.length_drop]; omega
  have := numOf_bound ((xs.drop a).take w) (fun x hx => hb x (List.mem_of_mem_drop (List.mem_of_mem_take hx)))
  rw [hl] at this
  exact this
theorem state_valid {xs : List Int} (hb : ∀ x ∈ xs, 0 ≤ x ∧ x ≤ 1) (hl : xs.length = 64) : isState (numIn xs 0 16) (numIn xs 16 4) (numIn xs 20 4) (numIn xs 24 8) (numIn xs 32 32) = true := by
  have h1 := numIn_bound xs hb 0 16 (by omega)
  have h2 := numIn_bound xs hb 16 4 (by omega)
  have h3 := numIn_bound xs hb 20 4 (by omega)
  have h4 := numIn_bound xs hb 24 8 (by omega)
  have h5 := numIn_bound xs hb 32 32 (by omega)
  exact isState_iff.2 ⟨by omega, by omega, by omega, by omega, by omega⟩
theorem bits_of_part (xs : List Int) (hb : ∀ x ∈ xs, 0 ≤ x ∧ x ≤ 1) (a w : Nat) (h : a + w ≤ xs.length) : bitsOf (numIn xs a w) w = (xs.drop a).take w :=
  bitsOf_numOf w _ (by rw [List.length_take, List.length_drop]; omega) (fun x hx => hb x (List.mem_of_mem_drop (List.mem_of_mem_take hx)))
theorem take_glue (xs : List Int) (a w : Nat) : xs.take a ++ (xs.drop a).take w = xs.take (a + w) := by rw [List.take_add]
theorem state_back {xs : List Int} (hb : ∀ x ∈ xs, 0 ≤ x ∧ x ≤ 1) (hl : xs.length = 64) : stateBits (numIn xs 0 16) (numIn xs 16 4) (numIn xs 20 4) (numIn xs 24 8) (numIn xs 32 32) = xs := by
  unfold stateBits
  rw [bits_of_part xs hb 0 16 (by omega), bits_of_part xs hb 16 4 (by omega), bits_of_part xs hb 20 4 (by omega), bits_of_part xs hb 24 8 (by omega), bits_of_part xs hb 32 32 (by omega)]
  rw [List.drop_zero, take_glue xs 16 4, take_glue xs 20 4, take_glue xs 24 8, take_glue xs 32 32]
  exact List.take_of_length_le (by omega)

/-! ### a slot further -/
/-- Round and Slot after a slot. -/
def stepRS (slots rounds r s : Int) : Int × Int := if s + 1 = slots then ((r + 1) % rounds, 0) else (r, s + 1)
def stepsRS (slots rounds : Int) : Nat → Int → Int → Int × Int
  | 0, r, s => (r, s)
  | n + 1, r, s => stepRS slots rounds (stepsRS slots rounds n r s).1 (stepsRS slots rounds n r s).2
/-- After n slots, ahead of the round's end. -/
theorem steps_before {slots rounds r s : Int} (n : Nat) (h : s + n < slots) : stepsRS slots rounds n r s = (r, s + n) := by
  induction n with
  | zero => simp [stepsRS]
  | succ n ih =>
    have ih := ih (by omega)
    unfold stepsRS
    rw [ih]
    unfold stepRS
    rw [if_neg (by simp only; omega)]
    simp only [Prod.mk.injEq, true_and]; omega
/-- .. at the round's end and behind it. -/
theorem steps_behind {slots rounds r s : Int} (h1 : s < slots) (n : Nat) (h2 : slots ≤ s + n) (h3 : s + n < 2 * slots) : stepsRS slots rounds n r s = ((r + 1) % rounds, s + n - slots) := by
  induction n with
  | zero => omega
  | succ n ih =>
    by_cases hb : slots ≤ s + n
    · have ih := ih hb (by omega)
      unfold stepsRS
      rw [ih]
      unfold stepRS
      rw [if_neg (by simp only; omega)]
      simp only [Prod.mk.injEq, true_and]; omega
    · have hs := steps_before (slots := slots) (rounds := rounds) (r := r) (s := s) n (by omega)
      unfold stepsRS
      rw [hs]
      unfold stepRS
      rw [if_pos (by simp only; omega)]
      simp only [Prod.mk.injEq, true_and]; omega
/-- A state is in its round again after as many slots as this has. -/
theorem steps_round {slots rounds r s : Int} (h0 : 0 ≤ s) (h1 : s < slots) : stepsRS slots rounds slots.toNat r s = ((r + 1) % rounds, s) := by
  rw [steps_behind h1 slots.toNat (by omega) (by omega)]
  simp only [Prod.mk.injEq, true_and]; omega
/-- In each step Slot is less than slots, Round less than rounds. -/
theorem steps_in {slots rounds r s : Int} (hs : 0 ≤ s ∧ s < slots) (hr : 0 ≤ r ∧ r < rounds) (n : Nat) : (0 ≤ (stepsRS slots rounds n r s).1 ∧ (stepsRS slots rounds n r s).1 < rounds) ∧ 0 ≤ (stepsRS slots rounds n r s).2 ∧ (stepsRS slots rounds n r s).2 < slots := by
  induction n with
  | zero => exact ⟨hr, hs⟩
  | succ n ih =>
    unfold stepsRS
    generalize stepsRS slots rounds n r s = q at ih
    obtain ⟨⟨a, b⟩, c, d⟩ := ih
    unfold stepRS
    split
    · exact ⟨⟨Int.emod_nonneg _ (by omega), Int.emod_lt_of_pos _ (by omega)⟩, by simp only; omega, by simp only; omega⟩
    · exact ⟨⟨a, b⟩, by simp only; omega, by simp only; omega⟩

/-! ### time between -/
def timeBetween (a b : Int) : Int := if 32767 < (b - a + 65536) % 65536 then (b - a + 65536) % 65536 - 65536 else (b - a + 65536) % 65536
theorem time_range (a b : Int) : -32768 ≤ timeBetween a b ∧ timeBetween a b ≤ 32767 := by unfold timeBetween; split <;> omega
theorem time_sign (a b : Int) : timeBetween a b = -32768 ∧ timeBetween b a = -32768 ∨ timeBetween b a = - timeBetween a b := by
  unfold timeBetween
  split <;> split <;> omega
theorem time_advance (t d : Int) : (timeBetween t ((t + d) % 65536) - d) % 65536 = 0 := by
  unfold timeBetween
  split <;> omega

/-! ### distance -/
theorem diffTo_sym (xs ys : List Int) (k : Nat) : diffTo xs ys k = diffTo ys xs k := by
  unfold diffTo
  congr 1
  apply List.filter_congr
  intro i _
  rw [bne_comm]
theorem diffTo_zero {xs ys : List Int} (hl : xs.length = ys.length) : (diffTo xs ys xs.length).length = 0 ↔ xs = ys := by
  rw [List.length_eq_zero_iff]
  unfold diffTo
  rw [List.map_eq_nil_iff, List.filter_eq_nil_iff]
  constructor
  · intro h
    apply List.ext_getElem hl
    intro i h1 h2
    have := h i (List.mem_range.2 h1)
    simpa [List.getD, h1, h2] using this
  · rintro rfl i _
    simp
theorem stateBits_inj {t m r s k t' m' r' s' k' : Int} (h : isState t m r s k = true) (h' : isState t' m' r' s' k' = true) (e : stateBits t m r s k = stateBits t' m' r' s' k') : t = t' ∧ m = m' ∧ r = r' ∧ s = s' ∧ k = k' := by
  obtain ⟨a1, a2, a3, a4, a5⟩ := stateBits_parts h
  obtain ⟨b1, b2, b3, b4, b5⟩ := stateBits_parts h'
  rw [e] at a1 a2 a3 a4 a5
  exact ⟨a1.symm.trans b1, a2.symm.trans b2, a3.symm.trans b3, a4.symm.trans b4, a5.symm.trans b5⟩
end Go.Proofs.YtkidhilipeoliaaDoor
