/-
  Vectors of members: the bits of a number below 2^32, its nodes, the vector of a list of nodes, agreed members, cliques. No program is named here.
-/
import Derived.Test.YtkidhilipeoliaaBase
namespace Go.Proofs.Ytkidhilipeoliaa

def isVec (x : Int) : Bool := inR 4294967295 x
def isNode (k : Int) : Bool := inR 31 k
/-- m with the bit k set to b. -/
def setN (m k : Nat) (b : Bool) : Nat := if m.testBit k = b then m else m ^^^ 2 ^ k
theorem setN_bit (m k j : Nat) (b : Bool) : (setN m k b).testBit j = if j = k then b else m.testBit j := by
  unfold setN
  split
  · rename_i h
    split
    · rename_i e; rw [e, h]
    · rfl
  · rename_i h
    rw [Nat.testBit_xor, Nat.testBit_two_pow]
    by_cases e : j = k
    · subst e
      cases hb : m.testBit j <;> cases b <;> simp_all
    · have e' : ¬ k = j := fun h => e h.symm
      simp [e, e']
theorem pow_lt32 {k : Nat} (hk : k < 32) : 2 ^ k < 2 ^ 32 := Nat.pow_lt_pow_right (by omega) hk
theorem setN_lt {m k : Nat} {b : Bool} (h : m < 4294967296) (hk : k < 32) : setN m k b < 4294967296 := by
  unfold setN
  split
  · exact h
  · exact Nat.xor_lt_two_pow (n := 32) (by omega) (pow_lt32 hk)
theorem bits_ext {a b : Nat} (ha : a < 4294967296) (hb : b < 4294967296) (h : ∀ k, k < 32 → a.testBit k = b.testBit k) : a = b := by
  apply Nat.eq_of_testBit_eq
  intro i
  by_cases hi : i < 32
  · exact h i hi
  · have h1 : (4294967296 : Nat) ≤ 2 ^ i := by
      have := Nat.pow_le_pow_right (n := 2) (by omega) (Nat.le_of_not_lt hi)
      omega
    rw [Nat.testBit_lt_two_pow (Nat.lt_of_lt_of_le ha h1), Nat.testBit_lt_two_pow (Nat.lt_of_lt_of_le hb h1)]
theorem setN_true (m k : Nat) : setN m k true = m ||| 2 ^ k := by
  apply Nat.eq_of_testBit_eq
  intro j
  rw [setN_bit, Nat.testBit_or, Nat.testBit_two_pow]
  by_cases e : j = k
  · simp [e]
  · have e' : ¬ k = j := fun h => e h.symm
    simp [e, e']
/-- The bit k, as Go's 'm>>k&1 == 1' has it. -/
theorem bit_div (m k : Nat) : decide ((m : Int) / 2 ^ k % 2 = 1) = m.testBit k := by
  have e : (m : Int) / 2 ^ k % 2 = ((m / 2 ^ k % 2 : Nat) : Int) := by simp
  rw [e, Nat.testBit_eq_decide_div_mod_eq]
  by_cases h : m / 2 ^ k % 2 = 1
  · rw [h]; rfl
  · rw [decide_eq_false h, decide_eq_false (by omega)]
theorem bit_and (m k : Nat) : (bits .and .i64 ((m : Int) / 2 ^ k) 1 == 1) = m.testBit k := by
  rw [and_one, ← bit_div]
  by_cases h : (m : Int) / 2 ^ k % 2 = 1 <;> simp [h]
theorem pow_cast (k : Nat) : ((2 ^ k : Nat) : Int) = (2 : Int) ^ k := by simp
theorem or_set (m k : Nat) (hm : m < 4294967296) (hk : k < 32) : bits .or .i64 (m : Int) (2 ^ k) = ((setN m k true : Nat) : Int) := by
  have := pow_lt32 hk
  rw [← pow_cast, or_nat _ _ (by omega) (by omega), setN_true]
theorem xor_set (m k : Nat) (hm : m < 4294967296) (hk : k < 32) : bits .xor .i64 (m : Int) (2 ^ k) = ((m ^^^ 2 ^ k : Nat) : Int) := by
  have := pow_lt32 hk
  rw [← pow_cast, xor_nat _ _ (by omega) (by omega)]
theorem andNot_set (m k : Nat) (hm : m < 4294967296) (hk : k < 32) : bits .andNot .i64 (m : Int) (2 ^ k) = ((setN m k false : Nat) : Int) := by
  have hp := pow_lt32 hk
  rw [← pow_cast]
  show IntKind.i64.wrap ((BitVec.ofInt 64 (m : Int) &&& ~~~ BitVec.ofInt 64 ((2 ^ k : Nat) : Int)).toNat : Nat) = _
  have e : (BitVec.ofInt 64 (m : Int) &&& ~~~ BitVec.ofInt 64 ((2 ^ k : Nat) : Int)).toNat = setN m k false := by
    apply Nat.eq_of_testBit_eq
    intro j
    rw [← BitVec.getLsbD, BitVec.getLsbD_and, BitVec.getLsbD_not, setN_bit, BitVec.getLsbD, BitVec.getLsbD, ofInt_nat _ (by omega), ofInt_nat _ (by omega), Nat.testBit_two_pow]
    by_cases e : j = k
    · subst e; simp
    · have e' : ¬ k = j := fun h => e h.symm
      by_cases hj : j < 64
      · simp [e, e', hj]
      · have h1 : (2 : Nat) ^ 64 ≤ 2 ^ j := Nat.pow_le_pow_right (by omega) (by omega)
        have : m.testBit j = false := Nat.testBit_lt_two_pow (by omega)
        simp [e, e', hj, this]
  rw [e, IntKind.wrap_i64]
  have := setN_lt (b := false) hm hk
  omega

def hasMember (m k : Int) : Bool := isVec m && (isNode k && m.toNat.testBit k.toNat)
def setMember (m k : Int) (b : Bool) : Int × Int := if (isVec m && isNode k) = true then ((setN m.toNat k.toNat b : Nat), 0) else (0, 2)
/-- The members of m among the first k nodes. -/
def nodesTo (m k : Nat) : List Int := ((List.range k).filter (fun j => m.testBit j)).map (fun j : Nat => (j : Int))
def membersOf (m : Int) : List Int × Int := if isVec m = true then (nodesTo m.toNat 32, 0) else ([], 2)
theorem nodesTo_succ (m k : Nat) : nodesTo m (k + 1) = if m.testBit k = true then nodesTo m k ++ [(k : Int)] else nodesTo m k := by
  unfold nodesTo
  rw [List.range_succ, List.filter_append, List.map_append]
  cases h : m.testBit k <;> simp [h]
theorem nodesTo_len (m k : Nat) : (nodesTo m k).length ≤ k := by
  unfold nodesTo
  rw [List.length_map]
  exact Nat.le_trans (List.length_filter_le _ _) (by simp)
/-- The vector of nodes, from acc on. -/
def vecFrom : Nat → List Int → Option Nat
  | a, [] => some a
  | a, x :: xs => if (isNode x && !a.testBit x.toNat) = true then vecFrom (setN a x.toNat true) xs else none
def vectorOf (xs : List Int) : Int × Int := match vecFrom 0 xs with | some a => ((a : Int), 0) | none => (0, 2)
theorem vecFrom_app (a : Nat) (xs ys : List Int) : vecFrom a (xs ++ ys) = (vecFrom a xs).bind (fun b => vecFrom b ys) := by
  induction xs generalizing a with
  | nil => rfl
  | cons x xs ih =>
    simp only [List.cons_append, vecFrom]
    split
    · exact ih _
    · rfl
theorem vecFrom_lt {a b : Nat} {xs : List Int} (ha : a < 4294967296) (h : vecFrom a xs = some b) : b < 4294967296 := by
  induction xs generalizing a with
  | nil => simp [vecFrom] at h; omega
  | cons x xs ih =>
    simp only [vecFrom] at h
    split at h
    · rename_i hx
      simp only [isNode, inR, Bool.and_eq_true, decide_eq_true_eq] at hx
      exact ih (setN_lt ha (by omega)) h
    · cases h
/-- One node more: what the next one does. -/
theorem vecFrom_take {xs : List Int} {k a : Nat} (hk : k < xs.length) (h : vecFrom 0 (xs.take k) = some a) :
    vecFrom 0 (xs.take (k + 1)) = if (isNode (xs.getD k 0) && !a.testBit (xs.getD k 0).toNat) = true then some (setN a (xs.getD k 0).toNat true) else none := by
  rw [take_succ' xs k hk, vecFrom_app, h]
  simp only [Option.bind_some, vecFrom]
theorem vecFrom_none {xs : List Int} {k : Nat} (h : vecFrom 0 (xs.take k) = none) : vectorOf xs = (0, 2) := by
  have : vecFrom 0 xs = none := by
    rw [← List.take_append_drop k xs, vecFrom_app, h]; rfl
  unfold vectorOf
  rw [this]
theorem vecFrom_all {xs : List Int} {a : Nat} (h : vecFrom 0 (xs.take xs.length) = some a) : vectorOf xs = ((a : Int), 0) := by
  rw [List.take_length] at h
  unfold vectorOf
  rw [h]
/-- The vector of the nodes of m among the first k. -/
theorem vec_nodes (m : Nat) {k : Nat} (hk : k ≤ 32) : ∃ a, vecFrom 0 (nodesTo m k) = some a ∧ a < 4294967296 ∧ ∀ j, a.testBit j = (decide (j < k) && m.testBit j) := by
  induction k with
  | zero => exact ⟨0, rfl, by omega, fun j => by simp⟩
  | succ k ih =>
    obtain ⟨a, h, hl, hb⟩ := ih (by omega)
    rw [nodesTo_succ]
    cases hk' : m.testBit k
    · refine ⟨a, by simpa using h, hl, fun j => ?_⟩
      rw [hb]
      by_cases e : j = k
      · subst e; simp [hk']
      · have : (j < k + 1) = (j < k) := by apply propext; omega
        rw [decide_eq_decide.2 (by omega : j < k + 1 ↔ j < k)]
    · have hc : a.testBit k = false := by rw [hb]; simp
      have hn : isNode (k : Int) = true := by simp only [isNode, inR, Bool.and_eq_true, decide_eq_true_eq]; omega
      refine ⟨setN a k true, ?_, setN_lt hl (by omega), fun j => ?_⟩
      · rw [if_pos rfl, vecFrom_app, h]
        simp [vecFrom, hn, hc]
      · rw [setN_bit, hb]
        by_cases e : j = k
        · subst e; simp [hk']
        · rw [if_neg e, decide_eq_decide.2 (by omega : j < k + 1 ↔ j < k)]
theorem vector_round {m : Nat} (hm : m < 4294967296) : vectorOf (nodesTo m 32) = ((m : Int), 0) := by
  obtain ⟨a, h, hl, hb⟩ := vec_nodes m (Nat.le_refl 32)
  have : a = m := bits_ext hl hm (fun k hk => by rw [hb]; simp [hk])
  unfold vectorOf
  rw [h, this]

def countN (xs : List Int) (k : Nat) : Nat := xs.countP (fun x => x.toNat.testBit k)
/-- The nodes below j that more than half of the vectors have. -/
def agreedTo (xs : List Int) : Nat → Nat
  | 0 => 0
  | j + 1 => setN (agreedTo xs j) j (decide (xs.length < 2 * countN xs j))
theorem agreedTo_lt (xs : List Int) (j : Nat) (hj : j ≤ 32) : agreedTo xs j < 4294967296 := by
  induction j with
  | zero => simp [agreedTo]
  | succ j ih => exact setN_lt (ih (by omega)) (by omega)
theorem agreedTo_bit (xs : List Int) (j k : Nat) : (agreedTo xs j).testBit k = (decide (k < j) && decide (xs.length < 2 * countN xs k)) := by
  induction j with
  | zero => simp [agreedTo]
  | succ j ih =>
    rw [agreedTo, setN_bit, ih]
    by_cases e : k = j
    · subst e; simp
    · rw [if_neg e, decide_eq_decide.2 (by omega : k < j + 1 ↔ k < j)]
theorem agreedTo_next (xs : List Int) (j : Nat) : agreedTo xs (j + 1) = if xs.length < 2 * countN xs j then setN (agreedTo xs j) j true else agreedTo xs j := by
  rw [agreedTo]
  by_cases h : xs.length < 2 * countN xs j
  · rw [if_pos h, decide_eq_true h]
  · rw [if_neg h, decide_eq_false h]
    unfold setN
    rw [if_pos (by rw [agreedTo_bit]; simp)]
def areVecs (xs : List Int) : Bool := within 32 4294967295 xs
def agreedMembers (xs : List Int) : Int × Int := if (decide (1 ≤ xs.length) && areVecs xs) = true then ((agreedTo xs 32 : Nat), 0) else (0, 2)
/-- The places below k at which x stands. -/
def placesTo (xs : List Int) (x : Int) (k : Nat) : List Int := ((List.range k).filter (fun j => decide (xs.getD j 0 = x))).map (fun j : Nat => (j : Int))
theorem placesTo_succ (xs : List Int) (x : Int) (k : Nat) : placesTo xs x (k + 1) = if xs.getD k 0 = x then placesTo xs x k ++ [(k : Int)] else placesTo xs x k := by
  unfold placesTo
  rw [List.range_succ, List.filter_append, List.map_append]
  by_cases h : xs.getD k 0 = x
  · rw [if_pos h, List.filter_cons_of_pos (by simpa using h)]; rfl
  · rw [if_neg h, List.filter_cons_of_neg (by simpa using h)]; simp
theorem placesTo_len (xs : List Int) (x : Int) (k : Nat) : (placesTo xs x k).length ≤ k := by
  unfold placesTo
  rw [List.length_map]
  exact Nat.le_trans (List.length_filter_le _ _) (by simp)
def cliqueOf (xs : List Int) (k : Int) : List Int × Int := if (areVecs xs && (decide (0 ≤ k) && decide (k < xs.length))) = true then (placesTo xs (xs.getD k.toNat 0) xs.length, 0) else ([], 2)
theorem cliqueOf_len (xs : List Int) (k : Int) : (cliqueOf xs k).1.length ≤ xs.length := by
  unfold cliqueOf
  split
  · exact placesTo_len _ _ _
  · simp
theorem membersOf_len (m : Int) : (membersOf m).1.length ≤ 32 := by
  unfold membersOf
  split
  · exact nodesTo_len _ _
  · simp
def isMajority (a r : Int) : Bool := inR 256 a && (inR 256 r && decide (r < a))
def acknowledgeBy (own k first second : Int) : Int × Int :=
  if (allIn 4294967295 [own, first, second] && isNode k) = false then (0, 2)
  else if own.toNat.testBit k.toNat = false then (0, 5)
  else if first = own then (1, 0)
  else if first = (setN own.toNat k.toNat false : Nat) ∧ second = (setN own.toNat k.toNat false : Nat) then (0, 0)
  else if first = (setN own.toNat k.toNat false : Nat) ∧ second = own then (1, 0)
  else (-1, 0)
end Go.Proofs.Ytkidhilipeoliaa
