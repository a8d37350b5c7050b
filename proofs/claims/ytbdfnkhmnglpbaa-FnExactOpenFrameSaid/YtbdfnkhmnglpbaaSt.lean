/-
  The plain functions of chapter 4, and what its laws say of them. No program is named here.
  Numbers in decimal, words between slashes: the texts of chapter 4 as plain functions on lists of bytes. No program is named here.
-/
import Derived.Test.YtbdfnkhmnglpbaaReg
namespace Go.Proofs.Ytbdfnkhmnglpbaa
section

def inRange (lo hi x : Int) : Bool := decide (lo ≤ x) && decide (x ≤ hi)
/-- A valid state: Time, Mode, Round, Slot, Members. -/
def isState (t m r s k : Int) : Bool := inRange 0 65535 t && inRange 0 15 m && inRange 0 15 r && inRange 0 255 s && inRange 0 4294967295 k
theorem isState_iff {t m r s k : Int} : isState t m r s k = true ↔ (0 ≤ t ∧ t ≤ 65535) ∧ (0 ≤ m ∧ m ≤ 15) ∧ (0 ≤ r ∧ r ≤ 15) ∧ (0 ≤ s ∧ s ≤ 255) ∧ 0 ≤ k ∧ k ≤ 4294967295 := by
  simp only [isState, inRange, Bool.and_eq_true, decide_eq_true_eq]
  constructor
  · rintro ⟨⟨⟨⟨a, b⟩, c⟩, d⟩, e⟩; exact ⟨a, b, c, d, e⟩
  · rintro ⟨a, b, c, d, e⟩; exact ⟨⟨⟨⟨a, b⟩, c⟩, d⟩, e⟩
def stateBits (t m r s k : Int) : List Int := bitsOf t 16 ++ bitsOf m 4 ++ bitsOf r 4 ++ bitsOf s 8 ++ bitsOf k 32
theorem stateBits_len (t m r s k : Int) : (stateBits t m r s k).length = 64 := by simp [stateBits, bitsOf_len]
theorem stateBits_bits (t m r s k : Int) : ∀ x ∈ stateBits t m r s k, 0 ≤ x ∧ x ≤ 1 := by
  intro x hx
  simp only [stateBits, List.mem_append] at hx
  rcases hx with (((hx | hx) | hx) | hx) | hx <;> exact bitsOf_bits _ _ x hx
/-- The number that stands from an index on. -/
def numIn (xs : List Int) (a w : Nat) : Int := numOf ((xs.drop a).take w)
theorem part_of {xs ys zs : List Int} {a w : Nat} (h1 : xs.length = a) (h2 : ys.length = w) : ((xs ++ ys ++ zs).drop a).take w = ys := by
  rw [List.append_assoc, ← h1, List.drop_left, ← h2, List.take_left]
theorem stateBits_parts {t m r s k : Int} (h : isState t m r s k = true) : numIn (stateBits t m r s k) 0 16 = t ∧ numIn (stateBits t m r s k) 16 4 = m ∧ numIn (stateBits t m r s k) 20 4 = r ∧ numIn (stateBits t m r s k) 24 8 = s ∧ numIn (stateBits t m r s k) 32 32 = k := by
  obtain ⟨a1, a2, a3, a4, a5⟩ := isState_iff.1 h
  have n1 := numOf_bitsOf t 16 a1.1 (by omega)
  have n2 := numOf_bitsOf m 4 a2.1 (by omega)
  have n3 := numOf_bitsOf r 4 a3.1 (by omega)
  have n4 := numOf_bitsOf s 8 a4.1 (by omega)
  have n5 := numOf_bitsOf k 32 a5.1 (by omega)
  unfold numIn stateBits
  refine ⟨?_, ?_, ?_, ?_, ?_⟩
  · rw [show bitsOf t 16 ++ bitsOf m 4 ++ bitsOf r 4 ++ bitsOf s 8 ++ bitsOf k 32 = [] ++ bitsOf t 16 ++ (bitsOf m 4 ++ bitsOf r 4 ++ bitsOf s 8 ++ bitsOf k 32) from by simp, part_of (a := 0) rfl (bitsOf_len _ _), n1]
  · rw [show bitsOf t 16 ++ bitsOf m 4 ++ bitsOf r 4 ++ bitsOf s 8 ++ bitsOf k 32 = bitsOf t 16 ++ bitsOf m 4 ++ (bitsOf r 4 ++ bitsOf s 8 ++ bitsOf k 32) from by simp, part_of (bitsOf_len _ _) (bitsOf_len _ _), n2]
  · rw [show bitsOf t 16 ++ bitsOf m 4 ++ bitsOf r 4 ++ bitsOf s 8 ++ bitsOf k 32 = (bitsOf t 16 ++ bitsOf m 4) ++ bitsOf r 4 ++ (bitsOf s 8 ++ bitsOf k 32) from by simp, part_of (by simp [bitsOf_len]) (bitsOf_len _ _), n3]
  · rw [show bitsOf t 16 ++ bitsOf m 4 ++ bitsOf r 4 ++ bitsOf s 8 ++ bitsOf k 32 = (bitsOf t 16 ++ bitsOf m 4 ++ bitsOf r 4) ++ bitsOf s 8 ++ bitsOf k 32 from by simp, part_of (by simp [bitsOf_len]) (bitsOf_len _ _), n4]
  · rw [show bitsOf t 16 ++ bitsOf m 4 ++ bitsOf r 4 ++ bitsOf s 8 ++ bitsOf k 32 = (bitsOf t 16 ++ bitsOf m 4 ++ bitsOf r 4 ++ bitsOf s 8) ++ bitsOf k 32 ++ [] from by simp, part_of (by simp [bitsOf_len]) (bitsOf_len _ _), n5]
/-- A list of 64 bits is the bits of a valid state. -/
theorem numIn_bound (xs : List Int) (hb : ∀ x ∈ xs, 0 ≤ x ∧ x ≤ 1) (a w : Nat) (h : a + w ≤ xs.length) : 0 ≤ numIn xs a w ∧ numIn xs a w < 2 ^ w := by
  have hl : ((xs.drop a).take w).length = w := by rw [List.length_take, List.length_drop]; omega
  have := numOf_bound ((xs.drop a).take w) (fun x hx => hb x (List.mem_of_mem_drop (List.mem_of_mem_take hx)))
  rw [hl] at this
  exact this
theorem state_valid {xs : List Int} (hb : ∀ x ∈ xs, 0 ≤ x ∧ x ≤ 1) (hl : xs.length = 64) : isState (numIn xs 0 16) (numIn xs 16 4) (numIn xs 20 4) (numIn xs 24 8) (numIn xs 32 32) = true := by
  have h1 := numIn_bound xs hb 0 16 (by omega)
  have h2 := numIn_bound xs hb 16 4 (by omega)
  have h3 := numIn_bound xs hb 20 4 (by omega)
  have h4 := numIn_bound xs hb 24 8 (by omega)
  have h5 := numIn_bound xs hb 32 32 (by omega)
  exact isState_iff.2 ⟨by omega, by omega, by omega, by omega, by omega⟩
theorem bits_of_part (xs : List Int) (hb : ∀ x ∈ xs, 0 ≤ x ∧ x ≤ 1) (a w : Nat) (h : a + w ≤ xs.length) : bitsOf (numIn xs a w) w = (xs.drop a).take w :=
  bitsOf_numOf w _ (by rw [List.length_take, List.length_drop]; omega) (fun x hx => hb x (List.mem_of_mem_drop (List.mem_of_mem_take hx)))
theorem take_glue (xs : List Int) (a w : Nat) : xs.take a ++ (xs.drop a).take w = xs.take (a + w) := by rw [List.take_add]
theorem state_back {xs : List Int} (hb : ∀ x ∈ xs, 0 ≤ x ∧ x ≤ 1) (hl : xs.length = 64) : stateBits (numIn xs 0 16) (numIn xs 16 4) (numIn xs 20 4) (numIn xs 24 8) (numIn xs 32 32) = xs := by
  unfold stateBits
  rw [bits_of_part xs hb 0 16 (by omega), bits_of_part xs hb 16 4 (by omega), bits_of_part xs hb 20 4 (by omega), bits_of_part xs hb 24 8 (by omega), bits_of_part xs hb 32 32 (by omega)]
  rw [List.drop_zero, take_glue xs 16 4, take_glue xs 20 4, take_glue xs 24 8, take_glue xs 32 32]
  exact List.take_of_length_le (by omega)

/-! ### a slot further -/
/-- Round and Slot after a slot. -/
def stepRS (slots rounds r s : Int) : Int × Int := if s + 1 = slots then ((r + 1) % rounds, 0) else (r, s + 1)
def stepsRS (slots rounds : Int) : Nat → Int → Int → Int × Int
  | 0, r, s => (r, s)
  | n + 1, r, s => stepRS slots rounds (stepsRS slots rounds n r s).1 (stepsRS slots rounds n r s).2
/-- After n slots, ahead of the round's end. -/
theorem steps_before {slots rounds r s : Int} (n : Nat) (h : s + n < slots) : stepsRS slots rounds n r s = (r, s + n) := by
  induction n with
  | zero => simp [stepsRS]
  | succ n ih =>
    have ih := ih (by omega)
    unfold stepsRS
    rw [ih]
    unfold stepRS
    rw [if_neg (by simp only; omega)]
    simp only [Prod.mk.injEq, true_and]; omega
/-- .. at the round's end and behind it. -/
theorem steps_behind {slots rounds r s : Int} (h1 : s < slots) (n : Nat) (h2 : slots ≤ s + n) (h3 : s + n < 2 * slots) : stepsRS slots rounds n r s = ((r + 1) % rounds, s + n - slots) := by
  induction n with
  | zero => omega
  | succ n ih =>
    by_cases hb : slots ≤ s + n
    · have ih := ih hb (by omega)
      unfold stepsRS
      rw [ih]
      unfold stepRS
      rw [if_neg (by simp only; omega)]
      simp only [Prod.mk.injEq, true_and]; omega
    · have hs := steps_before (slots := slots) (rounds := rounds) (r := r) (s := s) n (by omega)
      unfold stepsRS
      rw [hs]
      unfold stepRS
      rw [if_pos (by simp only; omega)]
      simp only [Prod.mk.injEq, true_and]; omega
/-- A state is in its round again after as many slots as this has. -/
theorem steps_round {slots rounds r s : Int} (h0 : 0 ≤ s) (h1 : s < slots) : stepsRS slots rounds slots.toNat r s = ((r + 1) % rounds, s) := by
  rw [steps_behind h1 slots.toNat (by omega) (by omega)]
  simp only [Prod.mk.injEq, true_and]; omega
/-- In each step Slot is less than slots, Round less than rounds. -/
theorem steps_in {slots rounds r s : Int} (hs : 0 ≤ s ∧ s < slots) (hr : 0 ≤ r ∧ r < rounds) (n : Nat) : (0 ≤ (stepsRS slots rounds n r s).1 ∧ (stepsRS slots rounds n r s).1 < rounds) ∧ 0 ≤ (stepsRS slots rounds n r s).2 ∧ (stepsRS slots rounds n r s).2 < slots := by
  induction n with
  | zero => exact ⟨hr, hs⟩
  | succ n ih =>
    unfold stepsRS
    generalize stepsRS slots rounds n r s = q at ih
    obtain ⟨⟨a, b⟩, c, d⟩ := ih
    unfold stepRS
    split
    · exact ⟨⟨Int.emod_nonneg _ (by omega), Int.emod_lt_of_pos _ (by omega)⟩, by simp only; omega, by simp only; omega⟩
    · exact ⟨⟨a, b⟩, by simp only; omega, by simp only; omega⟩

/-! ### time between -/
def timeBetween (a b : Int) : Int := if 32767 < (b - a + 65536) % 65536 then (b - a + 65536) % 65536 - 65536 else (b - a + 65536) % 65536
theorem time_range (a b : Int) : -32768 ≤ timeBetween a b ∧ timeBetween a b ≤ 32767 := by unfold timeBetween; split <;> omega
theorem time_sign (a b : Int) : timeBetween a b = -32768 ∧ timeBetween b a = -32768 ∨ timeBetween b a = - timeBetween a b := by
  unfold timeBetween
  split <;> split <;> omega
theorem time_advance (t d : Int) : (timeBetween t ((t + d) % 65536) - d) % 65536 = 0 := by
  unfold timeBetween
  split <;> omega

/-! ### distance -/
theorem diffTo_sym (xs ys : List Int) (k : Nat) : diffTo xs ys k = diffTo ys xs k := by
  unfold diffTo
  congr 1
  apply List.filter_congr
  intro i _
  rw [bne_comm]
theorem diffTo_zero {xs ys : List Int} (hl : xs.length = ys.length) : (diffTo xs ys xs.length).length = 0 ↔ xs = ys := by
  rw [List.length_eq_zero_iff]
  unfold diffTo
  rw [List.map_eq_nil_iff, List.filter_eq_nil_iff]
  constructor
  · intro h
    apply List.ext_getElem hl
    intro i h1 h2
    have := h i (List.mem_range.2 h1)
    simpa [List.getD, h1, h2] using this
  · rintro rfl i _
    simp
theorem stateBits_inj {t m r s k t' m' r' s' k' : Int} (h : isState t m r s k = true) (h' : isState t' m' r' s' k' = true) (e : stateBits t m r s k = stateBits t' m' r' s' k') : t = t' ∧ m = m' ∧ r = r' ∧ s = s' ∧ k = k' := by
  obtain ⟨a1, a2, a3, a4, a5⟩ := stateBits_parts h
  obtain ⟨b1, b2, b3, b4, b5⟩ := stateBits_parts h'
  rw [e] at a1 a2 a3 a4 a5
  exact ⟨a1.symm.trans b1, a2.symm.trans b2, a3.symm.trans b3, a4.symm.trans b4, a5.symm.trans b5⟩
end

section

/-- A number in decimal. -/
def dec (n : Nat) : List Int := if h : n < 10 then [48 + (n : Int)] else dec (n / 10) ++ [48 + ((n % 10 : Nat) : Int)]
termination_by n
theorem dec_small {n : Nat} (h : n < 10) : dec n = [48 + (n : Int)] := by rw [dec, dif_pos h]
theorem dec_big {n : Nat} (h : ¬ n < 10) : dec n = dec (n / 10) ++ [48 + ((n % 10 : Nat) : Int)] := by rw [dec, dif_neg h]
def isDigit (b : Int) : Bool := decide (48 ≤ b) && decide (b ≤ 57)
def valOf (bs : List Int) : Int := bs.foldl (fun n b => 10 * n + (b - 48)) 0
theorem valOf_snoc (bs : List Int) (b : Int) : valOf (bs ++ [b]) = 10 * valOf bs + (b - 48) := by simp [valOf, List.foldl_append]
theorem dec_digits (n : Nat) : ∀ b ∈ dec n, 48 ≤ b ∧ b ≤ 57 := by
  induction n using Nat.strongRecOn with
  | _ n ih =>
    intro b hb
    by_cases h : n < 10
    · rw [dec_small h, List.mem_singleton] at hb; omega
    · rw [dec_big h, List.mem_append, List.mem_singleton] at hb
      rcases hb with hb | hb
      · exact ih (n / 10) (by omega) b hb
      · omega
theorem dec_val (n : Nat) : valOf (dec n) = (n : Int) := by
  induction n using Nat.strongRecOn with
  | _ n ih =>
    by_cases h : n < 10
    · rw [dec_small h]; simp [valOf]; omega
    · rw [dec_big h, valOf_snoc, ih (n / 10) (by omega)]; omega
theorem dec_len (k : Nat) : ∀ n : Nat, n < 10 ^ (k + 1) → 1 ≤ (dec n).length ∧ (dec n).length ≤ k + 1 := by
  induction k with
  | zero => intro n h; rw [dec_small (by simpa using h)]; simp
  | succ k ih =>
    intro n h
    by_cases h1 : n < 10
    · rw [dec_small h1]; simp
    · rw [dec_big h1, List.length_append, List.length_singleton]
      have hp : (10 : Nat) ^ (k + 1 + 1) = 10 ^ (k + 1) * 10 := Nat.pow_succ ..
      have := ih (n / 10) (by rw [hp] at h; omega)
      omega
theorem dec_inj {a b : Nat} (h : dec a = dec b) : a = b := by
  have := dec_val a
  rw [h, dec_val b] at this
  omega
theorem valOf_nonneg (bs : List Int) (h : ∀ b ∈ bs, 48 ≤ b ∧ b ≤ 57) : 0 ≤ valOf bs := by
  unfold valOf
  suffices H : ∀ (bs : List Int) (n : Int), 0 ≤ n → (∀ b ∈ bs, 48 ≤ b ∧ b ≤ 57) → 0 ≤ bs.foldl (fun n b => 10 * n + (b - 48)) n from H bs 0 (by omega) h
  intro bs
  induction bs with
  | nil => intro n hn _; exact hn
  | cons b bs ih =>
    intro n hn hb
    have h1 := hb b (by simp)
    exact ih (10 * n + (b - 48)) (by omega) fun c hc => hb c (by simp [hc])
theorem valOf_lt (bs : List Int) (h : ∀ b ∈ bs, 48 ≤ b ∧ b ≤ 57) : valOf bs < 10 ^ bs.length := by
  unfold valOf
  suffices H : ∀ (bs : List Int) (n k : Int), n < k → (∀ b ∈ bs, 48 ≤ b ∧ b ≤ 57) → bs.foldl (fun n b => 10 * n + (b - 48)) n < k * 10 ^ bs.length from by simpa using H bs 0 1 (by omega) h
  intro bs
  induction bs with
  | nil => intro n k hn _; simpa using hn
  | cons b bs ih =>
    intro n k hn hb
    have h1 := hb b (by simp)
    have := ih (10 * n + (b - 48)) (k * 10) (by omega) fun c hc => hb c (by simp [hc])
    rw [List.length_cons, Int.pow_succ, Int.mul_comm (10 ^ bs.length) 10, ← Int.mul_assoc]
    exact this
/-- The number that a word of at most twelve digits says, if it is written as 'dec' writes it. -/
def value (bs : List Int) : Option Int :=
  if bs.length < 1 ∨ 12 < bs.length then none else if bs.all isDigit = false then none else if dec (valOf bs).toNat = bs then some (valOf bs) else none
theorem digits_all {bs : List Int} : bs.all isDigit = true ↔ ∀ b ∈ bs, 48 ≤ b ∧ b ≤ 57 := by simp [isDigit]
theorem value_dec {n : Nat} (h : n < 10 ^ 12) : value (dec n) = some (n : Int) := by
  have hl := dec_len 11 n h
  unfold value
  rw [if_neg (by omega), if_neg (by rw [digits_all.2 (dec_digits n)]; simp), dec_val, Int.toNat_natCast, if_pos rfl]
theorem value_get {bs : List Int} {x : Int} (h : value bs = some x) : ∃ n : Nat, x = (n : Int) ∧ bs = dec n ∧ n < 10 ^ 12 := by
  unfold value at h
  split at h
  · cases h
  · rename_i h1
    split at h
    · cases h
    · rename_i h2
      split at h
      · rename_i h3
        have hd := digits_all.1 (by simpa using h2 : bs.all isDigit = true)
        have h0 := valOf_nonneg bs hd
        have hlt := valOf_lt bs hd
        have hx : valOf bs = x := by simpa using h
        have hp : (10 : Int) ^ bs.length ≤ 10 ^ 12 := by
          have : (10 : Nat) ^ bs.length ≤ 10 ^ 12 := Nat.pow_le_pow_right (by omega) (by omega)
          have e : ((10 ^ bs.length : Nat) : Int) = (10 : Int) ^ bs.length := by simp
          omega
        exact ⟨(valOf bs).toNat, by omega, h3.symm, by omega⟩
      · cases h
theorem value_nil : value [] = none := by unfold value; rw [if_pos (by simp)]

/-- The words between slashes; 'cur': the word under way. -/
def splitFrom : List Int → List Int → List (List Int)
  | cur, [] => [cur]
  | cur, b :: bs => if b = 47 then cur :: splitFrom [] bs else splitFrom (cur ++ [b]) bs
def splitBy (bs : List Int) : List (List Int) := splitFrom [] bs
theorem split_word : ∀ (w cur rest : List Int), (∀ b ∈ w, b ≠ 47) → splitFrom cur (w ++ 47 :: rest) = (cur ++ w) :: splitFrom [] rest
  | [], cur, rest, _ => by simp [splitFrom]
  | b :: w, cur, rest, h => by
    rw [List.cons_append]
    show (if b = 47 then cur :: splitFrom [] (w ++ 47 :: rest) else splitFrom (cur ++ [b]) (w ++ 47 :: rest)) = _
    rw [if_neg (h b (by simp)), split_word w (cur ++ [b]) rest fun c hc => h c (by simp [hc])]
    simp
theorem split_last : ∀ (w cur : List Int), (∀ b ∈ w, b ≠ 47) → splitFrom cur w = [cur ++ w]
  | [], cur, _ => by simp [splitFrom]
  | b :: w, cur, h => by
    show (if b = 47 then cur :: splitFrom [] w else splitFrom (cur ++ [b]) w) = _
    rw [if_neg (h b (by simp)), split_last w (cur ++ [b]) fun c hc => h c (by simp [hc])]
    simp
def joinBy : List (List Int) → List Int
  | [] => []
  | [a] => a
  | a :: b :: r => a ++ 47 :: joinBy (b :: r)
theorem split_ne : ∀ (bs cur : List Int), splitFrom cur bs ≠ []
  | [], cur => by simp [splitFrom]
  | b :: bs, cur => by
    show (if b = 47 then cur :: splitFrom [] bs else splitFrom (cur ++ [b]) bs) ≠ []
    split
    · simp
    · exact split_ne bs _
theorem join_split : ∀ (bs cur : List Int), joinBy (splitFrom cur bs) = cur ++ bs
  | [], cur => by simp [splitFrom, joinBy]
  | b :: bs, cur => by
    show joinBy (if b = 47 then cur :: splitFrom [] bs else splitFrom (cur ++ [b]) bs) = _
    by_cases h : b = 47
    · rw [if_pos h]
      rcases hs : splitFrom [] bs with _ | ⟨a, r⟩
      · exact absurd hs (split_ne bs [])
      · show cur ++ 47 :: joinBy (a :: r) = _
        rw [← hs, join_split bs [], h]; simp
    · rw [if_neg h, join_split bs]; simp

/-- A state in decimal, its numbers separated by slashes; nothing if it is not valid. -/
def stateText (t m r s k : Int) : List Int :=
  if isState t m r s k = false then [] else dec t.toNat ++ 47 :: (dec m.toNat ++ 47 :: (dec r.toNat ++ 47 :: (dec s.toNat ++ 47 :: dec k.toNat)))
/-- The numbers of words, if all are numbers. -/
def numbers : List (List Int) → Option (List Int)
  | [] => some []
  | w :: ws => match value w with
    | none => none
    | some x => match numbers ws with
      | none => none
      | some xs => some (x :: xs)
/-- The valid state with a text. -/
def readState (bs : List Int) : Option (Int × Int × Int × Int × Int) :=
  match numbers (splitBy bs) with
  | some [t, m, r, s, k] => if isState t m r s k = true then some (t, m, r, s, k) else none
  | _ => none
theorem dec_noslash (n : Nat) : ∀ b ∈ dec n, b ≠ 47 := fun b hb => by have := dec_digits n b hb; omega
/-- A state is recovered from its text. -/
theorem read_text {t m r s k : Int} (h : isState t m r s k = true) : readState (stateText t m r s k) = some (t, m, r, s, k) := by
  obtain ⟨a1, a2, a3, a4, a5⟩ := isState_iff.1 h
  obtain ⟨t, rfl⟩ := Int.eq_ofNat_of_zero_le a1.1
  obtain ⟨m, rfl⟩ := Int.eq_ofNat_of_zero_le a2.1
  obtain ⟨r, rfl⟩ := Int.eq_ofNat_of_zero_le a3.1
  obtain ⟨s, rfl⟩ := Int.eq_ofNat_of_zero_le a4.1
  obtain ⟨k, rfl⟩ := Int.eq_ofNat_of_zero_le a5.1
  have e : splitBy (stateText t m r s k) = [dec t, dec m, dec r, dec s, dec k] := by
    unfold stateText splitBy
    rw [if_neg (by rw [h]; simp)]
    simp only [Int.toNat_natCast]
    rw [split_word _ _ _ (dec_noslash t), split_word _ _ _ (dec_noslash m), split_word _ _ _ (dec_noslash r), split_word _ _ _ (dec_noslash s), split_last _ _ (dec_noslash k)]
    simp
  unfold readState
  rw [e]
  simp only [numbers, value_dec (show t < 10 ^ 12 by omega), value_dec (show m < 10 ^ 12 by omega), value_dec (show r < 10 ^ 12 by omega), value_dec (show s < 10 ^ 12 by omega), value_dec (show k < 10 ^ 12 by omega)]
  rw [if_pos h]
theorem read_nil : readState [] = none := by
  unfold readState splitBy
  simp [splitFrom, numbers, value_nil]
theorem numbers_cons {w : List Int} {ws : List (List Int)} {x : Int} {xs : List Int} (h : numbers (w :: ws) = some (x :: xs)) : value w = some x ∧ numbers ws = some xs := by
  unfold numbers at h
  split at h
  · cases h
  · rename_i y hy
    split at h
    · cases h
    · rename_i ys hys
      simp only [Option.some.injEq, List.cons.injEq] at h
      exact ⟨by rw [hy, h.1], by rw [hys, h.2]⟩
theorem numbers_nil {ws : List (List Int)} (h : numbers ws = some []) : ws = [] := by
  cases ws with
  | nil => rfl
  | cons w ws =>
    unfold numbers at h
    split at h
    · cases h
    · split at h
      · cases h
      · cases h
theorem numbers_one {ws : List (List Int)} {x : Int} {xs : List Int} (h : numbers ws = some (x :: xs)) : ∃ n : Nat, ∃ us, x = (n : Int) ∧ ws = dec n :: us ∧ numbers us = some xs := by
  cases ws with
  | nil => unfold numbers at h; cases h
  | cons w us =>
    obtain ⟨h1, h2⟩ := numbers_cons h
    obtain ⟨n, hn, rfl, -⟩ := value_get h1
    exact ⟨n, us, hn, rfl, h2⟩
/-- What is read is the text of the state. -/
theorem text_read {bs : List Int} {t m r s k : Int} (h : readState bs = some (t, m, r, s, k)) : isState t m r s k = true ∧ stateText t m r s k = bs := by
  unfold readState at h
  split at h
  · rename_i t' m' r' s' k' hn
    split at h
    · rename_i hv
      simp only [Option.some.injEq, Prod.mk.injEq] at h
      obtain ⟨rfl, rfl, rfl, rfl, rfl⟩ := h
      obtain ⟨a1, u1, rfl, e1, hn1⟩ := numbers_one hn
      obtain ⟨a2, u2, rfl, e2, hn2⟩ := numbers_one hn1
      obtain ⟨a3, u3, rfl, e3, hn3⟩ := numbers_one hn2
      obtain ⟨a4, u4, rfl, e4, hn4⟩ := numbers_one hn3
      obtain ⟨a5, u5, rfl, e5, hn5⟩ := numbers_one hn4
      have e6 := numbers_nil hn5
      rw [e2, e3, e4, e5, e6] at e1
      refine ⟨hv, ?_⟩
      have hj := join_split bs []
      unfold splitBy at e1
      rw [e1] at hj
      simp only [joinBy, List.nil_append] at hj
      unfold stateText
      rw [if_neg (by rw [hv]; simp)]
      simp only [Int.toNat_natCast]
      exact hj
    · cases h
  · cases h
end
end Go.Proofs.Ytbdfnkhmnglpbaa
