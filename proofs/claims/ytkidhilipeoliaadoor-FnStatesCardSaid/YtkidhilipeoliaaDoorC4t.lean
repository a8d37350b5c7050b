/-
  Chapter 4: strings in slices of the call's own; the words of a string between slashes; the number that a word says. No program is named here but for its tables' rows.
-/
import Derived.Test.YtkidhilipeoliaaDoorC4p
import Derived.Test.YtkidhilipeoliaaDoorSt2
import Derived.Test.YtkidhilipeoliaaDoorBase
import Derived.Lib.SlicesS
namespace Go.Proofs.YtkidhilipeoliaaDoor
open Go.RowKit

/-- A slice of strings of the call's own. -/
def OwnS (E : Nat) (w : World) (base : Nat) (v : Value) (xs : List ByteArray) : Prop := w.ownsRow base E 1 v xs.length (xs.map Value.string)
/-- The row of the program's table for a string. -/
abbrev InfoStr (P : Program) (E : Nat) : Prop := (P.info? E).map (fun i => (i.zero, i.size, i.bytes)) = some (some (.string ByteArray.empty), 1, 16)
theorem info_parts_s {P : Program} {E : Nat} (h : InfoStr P E) : ∃ i, P.info? E = some i ∧ i.zero = some (.string ByteArray.empty) ∧ i.size = 1 ∧ i.bytes = 16 := by
  unfold InfoStr at h
  cases hi : P.info? E with
  | none => rw [hi] at h; cases h
  | some i =>
    rw [hi] at h
    simp only [Option.map_some, Option.some.injEq, Prod.mk.injEq] at h
    exact ⟨i, rfl, h.1, h.2.1, h.2.2⟩
section
variable {E base : Nat} {w w' : World} {v : Value} {xs : List ByteArray}
theorem OwnS.below (h : OwnS E w base v xs) (hb : Below w.heap.size w w') : OwnS E w' base v xs := by
  obtain ⟨h1, h2⟩ := h
  refine ⟨h1, ?_⟩
  rcases h2 with h2 | ⟨g, cap, cur, e, hg, hh, r⟩
  · exact .inl h2
  · exact .inr ⟨g, cap, cur, e, hg, by rw [hb.block g (Array.getElem?_eq_some_iff.1 hh).1]; exact hh, r⟩
theorem OwnS.of_alloc_nil (hE : base ≤ w.heap.size) : OwnS E (w.alloc (.cells #[] E)) base (.slice (some ⟨w.heap.size, 0, none⟩) 0 0) [] :=
  World.ownsRow_made w #[] 0 hE (by unfold maxLen; omega) rfl
theorem OwnS.block (h : OwnS E w base v xs) : ∀ g, v.ownBlock = some g → base ≤ g ∧ g < w.heap.size := World.ownsRow.lt h
/-- What an owned slice of strings looks like. -/
theorem OwnS.form (h : OwnS E w base v xs) : ∃ ao cap, v = .slice ao xs.length cap ∧ xs.length ≤ cap ∧ cap ≤ maxLen ∧ (0 < xs.length → ∃ b, ao = some ⟨b, 0, none⟩ ∧ ∀ i, i < xs.length → w.cell? ⟨b, i, none⟩ = some (.string (xs.getD i ByteArray.empty))) := by
  have h0 := h
  obtain ⟨h1, h2⟩ := h
  rcases h2 with ⟨rfl, h2⟩ | ⟨g, cap, cur, rfl, hg, hh, hn, hcap, hsz, htake⟩
  · have : xs = [] := List.length_eq_zero_iff.1 h2
    subst this
    exact ⟨none, 0, rfl, Nat.le_refl _, by unfold maxLen; omega, fun h => by simp at h⟩
  · refine ⟨_, cap, rfl, hn, hcap, fun _ => ⟨g, rfl, fun i hi => ?_⟩⟩
    unfold OwnS at h0
    rw [World.ownsRow.cellAt h0 i (by omega)]
    simp [List.getD, List.getElem?_eq_getElem hi]
end
section
variable {P : Program} {E T : Nat} (w : World) {ops : Array Oper} {rest : List Oper} {o : Oper} {a : Act} {Q : Exit → Act → World → Prop}
/-- 'append(out, x)' of one string onto a slice of the call's own. -/
theorem append_str (hgd : o.guard = none) (s x : Operand)
    (ho : o.op = .call { callee := .builtin .append, args := #[s, x], argTypes := #[T, T] })
    (base : Nat) (ht : P.underlying T = some (.slice E)) (hi : InfoStr P E)
    (v : Value) (xs : List ByteArray) (hs : a.eval s = v) (hown : OwnS E w base v xs) (b : Nat) (y : ByteArray) (c : Nat) (hx : a.eval x = .slice (some ⟨b, 0, none⟩) 1 c) (hc : w.cell? ⟨b, 0, none⟩ = some (.string y))
    (hlen : xs.length ≤ 4294967296) (hbase : base ≤ w.heap.size)
    (h : ∀ v' w', OwnS E w' base v' (xs ++ [y]) → Below base w w' → wpList P ops Q rest (a.put o.dst v') w') : wpList P ops Q (o :: rest) a w := by
  obtain ⟨i0, hi, hz0, hz1, hz2⟩ := info_parts_s hi
  refine wpList_append_own w hgd s x T ho base E i0 (.string ByteArray.empty) 1 16 ht hi hz0 hz1 hz2 rfl (by decide) v xs.length _ hs hown ⟨b, 0, none⟩ 1 c [.string y] hx rfl ?_ ?_ (by unfold maxLen; omega) (by omega) hbase ?_
  · intro j u hj
    match j, hj with
    | 0, hj => simp at hj; subst hj; simpa [Addr.add] using hc
  · intro u hu; simp at hu; subst hu; rfl
  · intro v' w' h1 h2 _
    refine h v' w' ?_ ((Below.refl _ _).grown h2 hbase fun k hk => (hown.block k hk).1)
    unfold OwnS
    simpa using h1
end

theorem nums_inj {a b : ByteArray} (h : nums a = nums b) : a = b := by
  apply ByteArray.ext
  apply Array.ext'
  unfold nums at h
  exact (List.map_inj_right fun x y hxy => UInt8.toNat_inj.1 (by exact_mod_cast hxy)).1 h
theorem nums_append (a b : ByteArray) : nums (a ++ b) = nums a ++ nums b := by
  unfold nums
  rw [ByteArray.data_append, Array.toList_append, List.map_append]
theorem nums_extract (s : ByteArray) (a b : Nat) : nums (s.extract a b) = ((nums s).take b).drop a := by
  unfold nums
  rw [ByteArray.data_extract, Array.toList_extract]
  simp [List.map_take, List.map_drop, List.extract, List.drop_take]
theorem nums_one (x : Nat) (h : x < 256) : nums (strOfNums [(x : Int)]) = [(x : Int)] := by
  rw [strOf_one]
  unfold nums
  simp
  omega
theorem nums_dec (n : Nat) : nums (decStr n) = dec n := by
  induction n using Nat.strongRecOn with
  | _ n ih =>
    by_cases h : n < 10
    · have e : (48 + (n : Int)) = ((48 + n : Nat) : Int) := by omega
      rw [decStr_small h, dec_small h, e, nums_one _ (by omega)]
    · have e : (48 + ((n % 10 : Nat) : Int)) = ((48 + n % 10 : Nat) : Int) := by omega
      rw [decStr_big h, dec_big h, nums_append, ih _ (by omega), e, nums_one _ (by omega)]

/-! The words of a string between slashes, as a loop finds them. -/
def slashAt (s : ByteArray) (k : Nat) : Bool := (nums s).getD k 0 == 47
def startAt (s : ByteArray) : Nat → Nat
  | 0 => 0
  | k + 1 => if slashAt s k then k + 1 else startAt s k
def doneAt (s : ByteArray) : Nat → List ByteArray
  | 0 => []
  | k + 1 => if slashAt s k then doneAt s k ++ [s.extract (startAt s k) k] else doneAt s k
def words (s : ByteArray) : List ByteArray := doneAt s s.size ++ [s.extract (startAt s s.size) s.size]
theorem done_hit {s : ByteArray} {k : Nat} (h : slashAt s k = true) : doneAt s (k + 1) = doneAt s k ++ [s.extract (startAt s k) k] := by
  show (if slashAt s k then doneAt s k ++ [s.extract (startAt s k) k] else doneAt s k) = _
  rw [if_pos h]
theorem done_miss {s : ByteArray} {k : Nat} (h : slashAt s k = false) : doneAt s (k + 1) = doneAt s k := by
  show (if slashAt s k then doneAt s k ++ [s.extract (startAt s k) k] else doneAt s k) = _
  rw [if_neg (by rw [h]; simp)]
theorem start_hit {s : ByteArray} {k : Nat} (h : slashAt s k = true) : startAt s (k + 1) = k + 1 := by
  show (if slashAt s k then k + 1 else startAt s k) = _
  rw [if_pos h]
theorem start_miss {s : ByteArray} {k : Nat} (h : slashAt s k = false) : startAt s (k + 1) = startAt s k := by
  show (if slashAt s k then k + 1 else startAt s k) = _
  rw [if_neg (by rw [h]; simp)]
theorem startAt_le (s : ByteArray) : ∀ k, startAt s k ≤ k
  | 0 => Nat.le_refl _
  | k + 1 => by
    have := startAt_le s k
    unfold startAt
    split <;> omega
theorem doneAt_len (s : ByteArray) : ∀ k, (doneAt s k).length ≤ k
  | 0 => by simp [doneAt]
  | k + 1 => by
    have := doneAt_len s k
    unfold doneAt
    split
    · rw [List.length_append]; simp; exact this
    · omega
theorem words_len (s : ByteArray) : (words s).length ≤ s.size + 1 := by
  have := doneAt_len s s.size
  unfold words
  rw [List.length_append]; simp; exact this
theorem split_cons (cur bs : List Int) (b : Int) : splitFrom cur (b :: bs) = if b = 47 then cur :: splitFrom [] bs else splitFrom (cur ++ [b]) bs := rfl
theorem split_at (s : ByteArray) : ∀ k, k ≤ s.size → splitBy (nums s) = (doneAt s k).map nums ++ splitFrom (nums (s.extract (startAt s k) k)) ((nums s).drop k)
  | 0, _ => by
    rw [nums_extract]
    simp [doneAt, startAt, splitBy]
  | k + 1, hk => by
    have ih := split_at s k (by omega)
    have hl := nums_len s
    have hkl : k < (nums s).length := by omega
    have hst := startAt_le s k
    have hd : (nums s).drop k = (nums s).getD k 0 :: (nums s).drop (k + 1) := by
      rw [List.drop_eq_getElem_cons hkl]; simp [List.getD, hkl]
    rw [hd] at ih
    rw [ih, split_cons]
    by_cases h : (nums s).getD k 0 = 47
    · have hs : slashAt s k = true := by unfold slashAt; rw [h]; rfl
      rw [if_pos h, done_hit hs, start_hit hs, List.map_append, List.append_assoc, nums_extract s (k + 1) (k + 1), show (List.take (k + 1) (nums s)).drop (k + 1) = [] from List.drop_eq_nil_of_le (by rw [List.length_take]; omega)]
      rfl
    · have hs : slashAt s k = false := by unfold slashAt; simpa using h
      rw [if_neg h, done_miss hs, start_miss hs, nums_extract, nums_extract, take_succ' _ _ hkl, List.drop_append_of_le_length (by rw [List.length_take]; omega)]
theorem words_split (s : ByteArray) : (words s).map nums = splitBy (nums s) := by
  have h := split_at s s.size (Nat.le_refl _)
  rw [h, List.drop_of_length_le (by rw [nums_len]; exact Nat.le_refl _)]
  unfold words splitFrom
  rw [List.map_append]
  rfl

/-! The number that a word says. -/
def valS (s : ByteArray) : Int × Bool :=
  if s.size < 1 ∨ 12 < s.size then (0, false) else if (nums s).all isDigit = false then (0, false) else (valOf (nums s), (decStr (valOf (nums s)).toNat).toList == s.toList)
theorem valS_short {s : ByteArray} (h : s.size < 1 ∨ 12 < s.size) : valS s = (0, false) := by unfold valS; rw [if_pos h]
theorem valS_no {s : ByteArray} (h : ¬ (s.size < 1 ∨ 12 < s.size)) (h2 : (nums s).all isDigit = false) : valS s = (0, false) := by unfold valS; rw [if_neg h, if_pos h2]
theorem valS_yes {s : ByteArray} (h : ¬ (s.size < 1 ∨ 12 < s.size)) (h2 : (nums s).all isDigit = true) : valS s = (valOf (nums s), (decStr (valOf (nums s)).toNat).toList == s.toList) := by unfold valS; rw [if_neg h, if_neg (by rw [h2]; simp)]
theorem value_valS (s : ByteArray) : value (nums s) = if (valS s).2 = true then some (valS s).1 else none := by
  have hl := nums_len s
  unfold value
  rw [hl]
  by_cases h : s.size < 1 ∨ 12 < s.size
  · rw [if_pos h, valS_short h]; rfl
  · rw [if_neg h]
    by_cases h2 : (nums s).all isDigit = false
    · rw [if_pos h2, valS_no h h2]; rfl
    · have h2' : (nums s).all isDigit = true := by simpa using h2
      rw [if_neg h2, valS_yes h h2']
      by_cases h3 : decStr (valOf (nums s)).toNat = s
      · have : dec (valOf (nums s)).toNat = nums s := by rw [← nums_dec, h3]
        rw [if_pos this, if_pos ((Lib.bytes_beq_iff _ _).2 h3)]
      · have : ¬ dec (valOf (nums s)).toNat = nums s := fun e => h3 (nums_inj (by rw [nums_dec]; exact e))
        rw [if_neg this, if_neg (fun e => h3 ((Lib.bytes_beq_iff _ _).1 e))]
/-- The numbers of words: until one is none. -/
def numsOk : List ByteArray → Bool
  | [] => true
  | s :: r => (valS s).2 && numsOk r
theorem numsOk_cons (s : ByteArray) (r : List ByteArray) : numsOk (s :: r) = ((valS s).2 && numsOk r) := rfl
theorem numbers_words : ∀ ws : List ByteArray, numbers (ws.map nums) = if numsOk ws = true then some (ws.map fun s => (valS s).1) else none
  | [] => rfl
  | s :: r => by
    rw [List.map_cons]
    unfold numbers
    rw [value_valS, numbers_words r]
    rw [numsOk_cons]
    cases h : (valS s).2
    · simp
    · cases h2 : numsOk r <;> simp
end Go.Proofs.YtkidhilipeoliaaDoor
