/-
  Numbers in decimal, words between slashes: the texts of chapter 4 as plain functions on lists of bytes. No program is named here.
-/
import Derived.Test.YtkidhilipeoliaaDoorSt1
namespace Go.Proofs.YtkidhilipeoliaaDoor

/-- A number in decimal. -/
def dec (n : Nat) : List Int := if h : n < 10 then [48 + (n : Int)] else dec (n / 10) ++ [48 + ((n % 10 : Nat) : Int)]
termination_by n
theorem dec_small {n : Nat} (h : n < 10) : dec n = [48 + (n : Int)] := by rw [dec, dif_pos h]
theorem dec_big {n : Nat} (h : ¬ n < 10) : dec n = dec (n / 10) ++ [48 + ((n % 10 : Nat) : Int)] := by rw [dec, dif_neg h]
def isDigit (b : Int) : Bool := decide (48 ≤ b) && decide (b ≤ 57)
def valOf (bs : List Int) : Int := bs.foldl (fun n b => 10 * n + (b - 48)) 0
theorem valOf_snoc (bs : List Int) (b : Int) : valOf (bs ++ [b]) = 10 * valOf bs + (b - 48) := by simp [valOf, List.foldl_append]
theorem dec_digits (n : Nat) : ∀ b ∈ dec n, 48 ≤ b ∧ b ≤ 57 := by
  induction n using Nat.strongRecOn with
  | _ n ih =>
    intro b hb
    by_cases h : n < 10
    · rw [dec_small h, List.mem_singleton] at hb; omega
    · rw [dec_big h, List.mem_append, List.mem_singleton] at hb
      rcases hb with hb | hb
      · exact ih (n / 10) (by omega) b hb
      · omega
theorem dec_val (n : Nat) : valOf (dec n) = (n : Int) := by
  induction n using Nat.strongRecOn with
  | _ n ih =>
    by_cases h : n < 10
    · rw [dec_small h]; simp [valOf]; omega
    · rw [dec_big h, valOf_snoc, ih (n / 10) (by omega)]; omega
theorem dec_len (k : Nat) : ∀ n : Nat, n < 10 ^ (k + 1) → 1 ≤ (dec n).length ∧ (dec n).length ≤ k + 1 := by
  induction k with
  | zero => intro n h; rw [dec_small (by simpa using h)]; simp
  | succ k ih =>
    intro n h
    by_cases h1 : n < 10
    · rw [dec_small h1]; simp
    · rw [dec_big h1, List.length_append, List.length_singleton]
      have hp : (10 : Nat) ^ (k + 1 + 1) = 10 ^ (k + 1) * 10 := Nat.pow_succ ..
      have := ih (n / 10) (by rw [hp] at h; omega)
      omega
theorem dec_inj {a b : Nat} (h : dec a = dec b) : a = b := by
  have := dec_val a
  rw [h, dec_val b] at this
  omega
theorem valOf_nonneg (bs : List Int) (h : ∀ b ∈ bs, 48 ≤ b ∧ b ≤ 57) : 0 ≤ valOf bs := by
  unfold valOf
  suffices H : ∀ (bs : List Int) (n : Int), 0 ≤ n → (∀ b ∈ bs, 48 ≤ b ∧ b ≤ 57) → 0 ≤ bs.foldl (fun n b => 10 * n + (b - 48)) n from H bs 0 (by omega) h
  intro bs
  induction bs with
  | nil => intro n hn _; exact hn
  | cons b bs ih =>
    intro n hn hb
    have h1 := hb b (by simp)
    exact ih (10 * n + (b - 48)) (by omega) fun c hc => hb c (by simp [hc])
theorem valOf_lt (bs : List Int) (h : ∀ b ∈ bs, 48 ≤ b ∧ b ≤ 57) : valOf bs < 10 ^ bs.length := by
  unfold valOf
  suffices H : ∀ (bs : List Int) (n k : Int), n < k → (∀ b ∈ bs, 48 ≤ b ∧ b ≤ 57) → bs.foldl (fun n b => 10 * n + (b - 48)) n < k * 10 ^ bs.length from by simpa using H bs 0 1 (by omega) h
  intro bs
  induction bs with
  | nil => intro n k hn _; simpa using hn
  | cons b bs ih =>
    intro n k hn hb
    have h1 := hb b (by simp)
    have := ih (10 * n + (b - 48)) (k * 10) (by omega) fun c hc => hb c (by simp [hc])
    rw [List.length_cons, Int.pow_succ, Int.mul_comm (10 ^ bs.length) 10, ← Int.mul_assoc]
    exact this
/-- The number that a word of at most twelve digits says, if it is written as 'dec' writes it. -/
def value (bs : List Int) : Option Int :=
  if bs.length < 1 ∨ 12 < bs.length then none else if bs.all isDigit = false then none else if dec (valOf bs).toNat = bs then some (valOf bs) else none
theorem digits_all {bs : List Int} : bs.all isDigit = true ↔ ∀ b ∈ bs, 48 ≤ b ∧ b ≤ 57 := by simp [isDigit]
theorem value_dec {n : Nat} (h : n < 10 ^ 12) : value (dec n) = some (n : Int) := by
  have hl := dec_len 11 n h
  unfold value
  rw [if_neg (by omega), if_neg (by rw [digits_all.2 (dec_digits n)]; simp), dec_val, Int.toNat_natCast, if_pos rfl]
theorem value_get {bs : List Int} {x : Int} (h : value bs = some x) : ∃ n : Nat, x = (n : Int) ∧ bs = dec n ∧ n < 10 ^ 12 := by
  unfold value at h
  split at h
  · cases h
  · rename_i h1
    split at h
    · cases h
    · rename_i h2
      split at h
      · rename_i h3
        have hd := digits_all.1 (by simpa using h2 : bs.all isDigit = true)
        have h0 := valOf_nonneg bs hd
        have hlt := valOf_lt bs hd
        have hx : valOf bs = x := by simpa using h
        have hp : (10 : Int) ^ bs.length ≤ 10 ^ 12 := by
          have : (10 : Nat) ^ bs.length ≤ 10 ^ 12 := Nat.pow_le_pow_right (by omega) (by omega)
          have e : ((10 ^ bs.length : Nat) : Int) = (10 : Int) ^ bs.length := by simp
          omega
        exact ⟨(valOf bs).toNat, by omega, h3.symm, by omega⟩
      · cases h
theorem value_nil : value [] = none := by unfold value; rw [if_pos (by simp)]

/-- The words between slashes; 'cur': the word under way. -/
def splitFrom : List Int → List Int → List (List Int)
  | cur, [] => [cur]
  | cur, b :: bs => if b = 47 then cur :: splitFrom [] bs else splitFrom (cur ++ [b]) bs
def splitBy (bs : List Int) : List (List Int) := splitFrom [] bs
theorem split_word : ∀ (w cur rest : List Int), (∀ b ∈ w, b ≠ 47) → splitFrom cur (w ++ 47 :: rest) = (cur ++ w) :: splitFrom [] rest
  | [], cur, rest, _ => by simp [splitFrom]
  | b :: w, cur, rest, h => by
    rw [List.cons_append]
    show (if b = 47 then cur :: splitFrom [] (w ++ 47 :: rest) else splitFrom (cur ++ [b]) (w ++ 47 :: rest)) = _
    rw [if_neg (h b (by simp)), split_word w (cur ++ [b]) rest fun c hc => h c (by simp [hc])]
    simp
theorem split_last : ∀ (w cur : List Int), (∀ b ∈ w, b ≠ 47) → splitFrom cur w = [cur ++ w]
  | [], cur, _ => by simp [splitFrom]
  | b :: w, cur, h => by
    show (if b = 47 then cur :: splitFrom [] w else splitFrom (cur ++ [b]) w) = _
    rw [if_neg (h b (by simp)), split_last w (cur ++ [b]) fun c hc => h c (by simp [hc])]
    simp
def joinBy : List (List Int) → List Int
  | [] => []
  | [a] => a
  | a :: b :: r => a ++ 47 :: joinBy (b :: r)
theorem split_ne : ∀ (bs cur : List Int), splitFrom cur bs ≠ []
  | [], cur => by simp [splitFrom]
  | b :: bs, cur => by
    show (if b = 47 then cur :: splitFrom [] bs else splitFrom (cur ++ [b]) bs) ≠ []
    split
    · simp
    · exact split_ne bs _
theorem join_split : ∀ (bs cur : List Int), joinBy (splitFrom cur bs) = cur ++ bs
  | [], cur => by simp [splitFrom, joinBy]
  | b :: bs, cur => by
    show joinBy (if b = 47 then cur :: splitFrom [] bs else splitFrom (cur ++ [b]) bs) = _
    by_cases h : b = 47
    · rw [if_pos h]
      rcases hs : splitFrom [] bs with _ | ⟨a, r⟩
      · exact absurd hs (split_ne bs [])
      · show cur ++ 47 :: joinBy (a :: r) = _
        rw [← hs, join_split bs [], h]; simp
    · rw [if_neg h, join_split bs]; simp

/-- A state in decimal, its numbers separated by slashes; nothing if it is not valid. -/
def stateText (t m r s k : Int) : List Int :=
  if isState t m r s k = false then [] else dec t.toNat ++ 47 :: (dec m.toNat ++ 47 :: (dec r.toNat ++ 47 :: (dec s.toNat ++ 47 :: dec k.toNat)))
/-- The numbers of words, if all are numbers. -/
def numbers : List (List Int) → Option (List Int)
  | [] => some []
  | w :: ws => match value w with
    | none => none
    | some x => match numbers ws with
      | none => none
      | some xs => some (x :: xs)
/-- The valid state with a text. -/
def readState (bs : List Int) : Option (Int × Int × Int × Int × Int) :=
  match numbers (splitBy bs) with
  | some [t, m, r, s, k] => if isState t m r s k = true then some (t, m, r, s, k) else none
  | _ => none
theorem dec_noslash (n : Nat) : ∀ b ∈ dec n, b ≠ 47 := fun b hb => by have := dec_digits n b hb; omega
/-- A state is recovered from its text. -/
theorem read_text {t m r s k : Int} (h : isState t m r s k = true) : readState (stateText t m r s k) = some (t, m, r, s, k) := by
  obtain ⟨a1, a2, a3, a4, a5⟩ := isState_iff.1 h
  obtain ⟨t, rfl⟩ := Int.eq_ofNat_of_zero_le a1.1
  obtain ⟨m, rfl⟩ := Int.eq_ofNat_of_zero_le a2.1
  obtain ⟨r, rfl⟩ := Int.eq_ofNat_of_zero_le a3.1
  obtain ⟨s, rfl⟩ := Int.eq_ofNat_of_zero_le a4.1
  obtain ⟨k, rfl⟩ := Int.eq_ofNat_of_zero_le a5.1
  have e : splitBy (stateText t m r s k) = [dec t, dec m, dec r, dec s, dec k] := by
    unfold stateText splitBy
    rw [if_neg (by rw [h]; simp)]
    simp only [Int.toNat_natCast]
    rw [split_word _ _ _ (dec_noslash t), split_word _ _ _ (dec_noslash m), split_word _ _ _ (dec_noslash r), split_word _ _ _ (dec_noslash s), split_last _ _ (dec_noslash k)]
    simp
  unfold readState
  rw [e]
  simp only [numbers, value_dec (show t < 10 ^ 12 by omega), value_dec (show m < 10 ^ 12 by omega), value_dec (show r < 10 ^ 12 by omega), value_dec (show s < 10 ^ 12 by omega), value_dec (show k < 10 ^ 12 by omega)]
  rw [if_pos h]
theorem read_nil : readState [] = none := by
  unfold readState splitBy
  simp [splitFrom, numbers, value_nil]
theorem numbers_cons {w : List Int} {ws : List (List Int)} {x : Int} {xs : List Int} (h : numbers (w :: ws) = some (x :: xs)) : value w = some x ∧ numbers ws = some xs := by
  unfold numbers at h
  split at h
  · cases h
  · rename_i y hy
    split at h
    · cases h
    · rename_i ys hys
      simp only [Option.some.injEq, List.cons.injEq] at h
      exact ⟨by rw [hy, h.1], by rw [hys, h.2]⟩
theorem numbers_nil {ws : List (List Int)} (h : numbers ws = some []) : ws = [] := by
  cases ws with
  | nil => rfl
  | cons w ws =>
    unfold numbers at h
    split at h
    · cases h
    · split at h
      · cases h
      · cases h
theorem numbers_one {ws : List (List Int)} {x : Int} {xs : List Int} (h : numbers ws = some (x :: xs)) : ∃ n : Nat, ∃ us, x = (n : Int) ∧ ws = dec n :: us ∧ numbers us = some xs := by
  cases ws with
  | nil => unfold numbers at h; cases h
  | cons w us =>
    obtain ⟨h1, h2⟩ := numbers_cons h
    obtain ⟨n, hn, rfl, -⟩ := value_get h1
    exact ⟨n, us, hn, rfl, h2⟩
/-- What is read is the text of the state. -/
theorem text_read {bs : List Int} {t m r s k : Int} (h : readState bs = some (t, m, r, s, k)) : isState t m r s k = true ∧ stateText t m r s k = bs := by
  unfold readState at h
  split at h
  · rename_i t' m' r' s' k' hn
    split at h
    · rename_i hv
      simp only [Option.some.injEq, Prod.mk.injEq] at h
      obtain ⟨rfl, rfl, rfl, rfl, rfl⟩ := h
      obtain ⟨a1, u1, rfl, e1, hn1⟩ := numbers_one hn
      obtain ⟨a2, u2, rfl, e2, hn2⟩ := numbers_one hn1
      obtain ⟨a3, u3, rfl, e3, hn3⟩ := numbers_one hn2
      obtain ⟨a4, u4, rfl, e4, hn4⟩ := numbers_one hn3
      obtain ⟨a5, u5, rfl, e5, hn5⟩ := numbers_one hn4
      have e6 := numbers_nil hn5
      rw [e2, e3, e4, e5, e6] at e1
      refine ⟨hv, ?_⟩
      have hj := join_split bs []
      unfold splitBy at e1
      rw [e1] at hj
      simp only [joinBy, List.nil_append] at hj
      unfold stateText
      rw [if_neg (by rw [hv]; simp)]
      simp only [Int.toNat_natCast]
      exact hj
    · cases h
  · cases h
end Go.Proofs.YtkidhilipeoliaaDoor
