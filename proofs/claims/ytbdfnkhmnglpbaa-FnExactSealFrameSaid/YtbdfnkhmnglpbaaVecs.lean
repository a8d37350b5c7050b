/-
  Vectors of members: the bits of a number below 2^32, its nodes, the vector of a list of nodes, agreed members, cliques. No program is named here.
  Chapter 5: counting, for each node, the vectors in which it is a member; an array's cells. No program is named here.
  Chapter 5: what its laws say of vectors: members, majorities, cliques, acknowledgements. No program is named here.
-/
import Derived.Test.YtbdfnkhmnglpbaaBase
import Derived.Laws.Rows
import Derived.Laws.Tables
namespace Go.Proofs.Ytbdfnkhmnglpbaa
section

def isVec (x : Int) : Bool := inR 4294967295 x
def isNode (k : Int) : Bool := inR 31 k
/-- m with the bit k set to b. -/
def setN (m k : Nat) (b : Bool) : Nat := if m.testBit k = b then m else m ^^^ 2 ^ k
theorem setN_bit (m k j : Nat) (b : Bool) : (setN m k b).testBit j = if j = k then b else m.testBit j := by
  unfold setN
  split
  · rename_i h
    split
    · rename_i e; rw [e, h]
    · rfl
  · rename_i h
    rw [Nat.testBit_xor, Nat.testBit_two_pow]
    by_cases e : j = k
    · subst e
      cases hb : m.testBit j <;> cases b <;> simp_all
    · have e' : ¬ k = j := fun h => e h.symm
      simp [e, e']
theorem pow_lt32 {k : Nat} (hk : k < 32) : 2 ^ k < 2 ^ 32 := Nat.pow_lt_pow_right (by omega) hk
theorem setN_lt {m k : Nat} {b : Bool} (h : m < 4294967296) (hk : k < 32) : setN m k b < 4294967296 := by
  unfold setN
  split
  · exact h
  · exact Nat.xor_lt_two_pow (n := 32) (by omega) (pow_lt32 hk)
theorem bits_ext {a b : Nat} (ha : a < 4294967296) (hb : b < 4294967296) (h : ∀ k, k < 32 → a.testBit k = b.testBit k) : a = b := by
  apply Nat.eq_of_testBit_eq
  intro i
  by_cases hi : i < 32
  · exact h i hi
  · have h1 : (4294967296 : Nat) ≤ 2 ^ i := by
      have := Nat.pow_le_pow_right (n := 2) (by omega) (Nat.le_of_not_lt hi)
      omega
    rw [Nat.testBit_lt_two_pow (Nat.lt_of_lt_of_le ha h1), Nat.testBit_lt_two_pow (Nat.lt_of_lt_of_le hb h1)]
theorem setN_true (m k : Nat) : setN m k true = m ||| 2 ^ k := by
  apply Nat.eq_of_testBit_eq
  intro j
  rw [setN_bit, Nat.testBit_or, Nat.testBit_two_pow]
  by_cases e : j = k
  · simp [e]
  · have e' : ¬ k = j := fun h => e h.symm
    simp [e, e']
/-- The bit k, as Go's 'm>>k&1 == 1' has it. -/
theorem bit_div (m k : Nat) : decide ((m : Int) / 2 ^ k % 2 = 1) = m.testBit k := by
  have e : (m : Int) / 2 ^ k % 2 = ((m / 2 ^ k % 2 : Nat) : Int) := by simp
  rw [e, Nat.testBit_eq_decide_div_mod_eq]
  by_cases h : m / 2 ^ k % 2 = 1
  · rw [h]; rfl
  · rw [decide_eq_false h, decide_eq_false (by omega)]
theorem bit_and (m k : Nat) : (bits .and .i64 ((m : Int) / 2 ^ k) 1 == 1) = m.testBit k := by
  rw [and_one, ← bit_div]
  by_cases h : (m : Int) / 2 ^ k % 2 = 1 <;> simp [h]
theorem pow_cast (k : Nat) : ((2 ^ k : Nat) : Int) = (2 : Int) ^ k := by simp
theorem or_set (m k : Nat) (hm : m < 4294967296) (hk : k < 32) : bits .or .i64 (m : Int) (2 ^ k) = ((setN m k true : Nat) : Int) := by
  have := pow_lt32 hk
  rw [← pow_cast, or_nat _ _ (by omega) (by omega), setN_true]
theorem xor_set (m k : Nat) (hm : m < 4294967296) (hk : k < 32) : bits .xor .i64 (m : Int) (2 ^ k) = ((m ^^^ 2 ^ k : Nat) : Int) := by
  have := pow_lt32 hk
  rw [← pow_cast, xor_nat _ _ (by omega) (by omega)]
theorem andNot_set (m k : Nat) (hm : m < 4294967296) (hk : k < 32) : bits .andNot .i64 (m : Int) (2 ^ k) = ((setN m k false : Nat) : Int) := by
  have hp := pow_lt32 hk
  rw [← pow_cast]
  show IntKind.i64.wrap ((BitVec.ofInt 64 (m : Int) &&& ~~~ BitVec.ofInt 64 ((2 ^ k : Nat) : Int)).toNat : Nat) = _
  have e : (BitVec.ofInt 64 (m : Int) &&& ~~~ BitVec.ofInt 64 ((2 ^ k : Nat) : Int)).toNat = setN m k false := by
    apply Nat.eq_of_testBit_eq
    intro j
    rw [← BitVec.getLsbD, BitVec.getLsbD_and, BitVec.getLsbD_not, setN_bit, BitVec.getLsbD, BitVec.getLsbD, ofInt_nat _ (by omega), ofInt_nat _ (by omega), Nat.testBit_two_pow]
    by_cases e : j = k
    · subst e; simp
    · have e' : ¬ k = j := fun h => e h.symm
      by_cases hj : j < 64
      · simp [e, e', hj]
      · have h1 : (2 : Nat) ^ 64 ≤ 2 ^ j := Nat.pow_le_pow_right (by omega) (by omega)
        have : m.testBit j = false := Nat.testBit_lt_two_pow (by omega)
        simp [e, e', hj, this]
  rw [e, IntKind.wrap_i64]
  have := setN_lt (b := false) hm hk
  omega

def hasMember (m k : Int) : Bool := isVec m && (isNode k && m.toNat.testBit k.toNat)
def setMember (m k : Int) (b : Bool) : Int × Int := if (isVec m && isNode k) = true then ((setN m.toNat k.toNat b : Nat), 0) else (0, 2)
/-- The members of m among the first k nodes. -/
def nodesTo (m k : Nat) : List Int := ((List.range k).filter (fun j => m.testBit j)).map (fun j : Nat => (j : Int))
def membersOf (m : Int) : List Int × Int := if isVec m = true then (nodesTo m.toNat 32, 0) else ([], 2)
theorem nodesTo_succ (m k : Nat) : nodesTo m (k + 1) = if m.testBit k = true then nodesTo m k ++ [(k : Int)] else nodesTo m k := by
  unfold nodesTo
  rw [List.range_succ, List.filter_append, List.map_append]
  cases h : m.testBit k <;> simp [h]
theorem nodesTo_len (m k : Nat) : (nodesTo m k).length ≤ k := by
  unfold nodesTo
  rw [List.length_map]
  exact Nat.le_trans (List.length_filter_le _ _) (by simp)
/-- The vector of nodes, from acc on. -/
def vecFrom : Nat → List Int → Option Nat
  | a, [] => some a
  | a, x :: xs => if (isNode x && !a.testBit x.toNat) = true then vecFrom (setN a x.toNat true) xs else none
def vectorOf (xs : List Int) : Int × Int := match vecFrom 0 xs with | some a => ((a : Int), 0) | none => (0, 2)
theorem vecFrom_app (a : Nat) (xs ys : List Int) : vecFrom a (xs ++ ys) = (vecFrom a xs).bind (fun b => vecFrom b ys) := by
  induction xs generalizing a with
  | nil => rfl
  | cons x xs ih =>
    simp only [List.cons_append, vecFrom]
    split
    · exact ih _
    · rfl
theorem vecFrom_lt {a b : Nat} {xs : List Int} (ha : a < 4294967296) (h : vecFrom a xs = some b) : b < 4294967296 := by
  induction xs generalizing a with
  | nil => simp [vecFrom] at h; omega
  | cons x xs ih =>
    simp only [vecFrom] at h
    split at h
    · rename_i hx
      simp only [isNode, inR, Bool.and_eq_true, decide_eq_true_eq] at hx
      exact ih (setN_lt ha (by omega)) h
    · cases h
/-- One node more: what the next one does. -/
theorem vecFrom_take {xs : List Int} {k a : Nat} (hk : k < xs.length) (h : vecFrom 0 (xs.take k) = some a) :
    vecFrom 0 (xs.take (k + 1)) = if (isNode (xs.getD k 0) && !a.testBit (xs.getD k 0).toNat) = true then some (setN a (xs.getD k 0).toNat true) else none := by
  rw [take_succ' xs k hk, vecFrom_app, h]
  simp only [Option.bind_some, vecFrom]
theorem vecFrom_none {xs : List Int} {k : Nat} (h : vecFrom 0 (xs.take k) = none) : vectorOf xs = (0, 2) := by
  have : vecFrom 0 xs = none := by
    rw [← List.take_append_drop k xs, vecFrom_app, h]; rfl
  unfold vectorOf
  rw [this]
theorem vecFrom_all {xs : List Int} {a : Nat} (h : vecFrom 0 (xs.take xs.length) = some a) : vectorOf xs = ((a : Int), 0) := by
  rw [List.take_length] at h
  unfold vectorOf
  rw [h]
/-- The vector of the nodes of m among the first k. -/
theorem vec_nodes (m : Nat) {k : Nat} (hk : k ≤ 32) : ∃ a, vecFrom 0 (nodesTo m k) = some a ∧ a < 4294967296 ∧ ∀ j, a.testBit j = (decide (j < k) && m.testBit j) := by
  induction k with
  | zero => exact ⟨0, rfl, by omega, fun j => by simp⟩
  | succ k ih =>
    obtain ⟨a, h, hl, hb⟩ := ih (by omega)
    rw [nodesTo_succ]
    cases hk' : m.testBit k
    · refine ⟨a, by simpa using h, hl, fun j => ?_⟩
      rw [hb]
      by_cases e : j = k
      · subst e; simp [hk']
      · have : (j < k + 1) = (j < k) := by apply propext; omega
        rw [decide_eq_decide.2 (by omega : j < k + 1 ↔ j < k)]
    · have hc : a.testBit k = false := by rw [hb]; simp
      have hn : isNode (k : Int) = true := by simp only [isNode, inR, Bool.and_eq_true, decide_eq_true_eq]; omega
      refine ⟨setN a k true, ?_, setN_lt hl (by omega), fun j => ?_⟩
      · rw [if_pos rfl, vecFrom_app, h]
        simp [vecFrom, hn, hc]
      · rw [setN_bit, hb]
        by_cases e : j = k
        · subst e; simp [hk']
        · rw [if_neg e, decide_eq_decide.2 (by omega : j < k + 1 ↔ j < k)]
theorem vector_round {m : Nat} (hm : m < 4294967296) : vectorOf (nodesTo m 32) = ((m : Int), 0) := by
  obtain ⟨a, h, hl, hb⟩ := vec_nodes m (Nat.le_refl 32)
  have : a = m := bits_ext hl hm (fun k hk => by rw [hb]; simp [hk])
  unfold vectorOf
  rw [h, this]

def countN (xs : List Int) (k : Nat) : Nat := xs.countP (fun x => x.toNat.testBit k)
/-- The nodes below j that more than half of the vectors have. -/
def agreedTo (xs : List Int) : Nat → Nat
  | 0 => 0
  | j + 1 => setN (agreedTo xs j) j (decide (xs.length < 2 * countN xs j))
theorem agreedTo_lt (xs : List Int) (j : Nat) (hj : j ≤ 32) : agreedTo xs j < 4294967296 := by
  induction j with
  | zero => simp [agreedTo]
  | succ j ih => exact setN_lt (ih (by omega)) (by omega)
theorem agreedTo_bit (xs : List Int) (j k : Nat) : (agreedTo xs j).testBit k = (decide (k < j) && decide (xs.length < 2 * countN xs k)) := by
  induction j with
  | zero => simp [agreedTo]
  | succ j ih =>
    rw [agreedTo, setN_bit, ih]
    by_cases e : k = j
    · subst e; simp
    · rw [if_neg e, decide_eq_decide.2 (by omega : k < j + 1 ↔ k < j)]
theorem agreedTo_next (xs : List Int) (j : Nat) : agreedTo xs (j + 1) = if xs.length < 2 * countN xs j then setN (agreedTo xs j) j true else agreedTo xs j := by
  rw [agreedTo]
  by_cases h : xs.length < 2 * countN xs j
  · rw [if_pos h, decide_eq_true h]
  · rw [if_neg h, decide_eq_false h]
    unfold setN
    rw [if_pos (by rw [agreedTo_bit]; simp)]
def areVecs (xs : List Int) : Bool := within 32 4294967295 xs
def agreedMembers (xs : List Int) : Int × Int := if (decide (1 ≤ xs.length) && areVecs xs) = true then ((agreedTo xs 32 : Nat), 0) else (0, 2)
/-- The places below k at which x stands. -/
def placesTo (xs : List Int) (x : Int) (k : Nat) : List Int := ((List.range k).filter (fun j => decide (xs.getD j 0 = x))).map (fun j : Nat => (j : Int))
theorem placesTo_succ (xs : List Int) (x : Int) (k : Nat) : placesTo xs x (k + 1) = if xs.getD k 0 = x then placesTo xs x k ++ [(k : Int)] else placesTo xs x k := by
  unfold placesTo
  rw [List.range_succ, List.filter_append, List.map_append]
  by_cases h : xs.getD k 0 = x
  · rw [if_pos h, List.filter_cons_of_pos (by simpa using h)]; rfl
  · rw [if_neg h, List.filter_cons_of_neg (by simpa using h)]; simp
theorem placesTo_len (xs : List Int) (x : Int) (k : Nat) : (placesTo xs x k).length ≤ k := by
  unfold placesTo
  rw [List.length_map]
  exact Nat.le_trans (List.length_filter_le _ _) (by simp)
def cliqueOf (xs : List Int) (k : Int) : List Int × Int := if (areVecs xs && (decide (0 ≤ k) && decide (k < xs.length))) = true then (placesTo xs (xs.getD k.toNat 0) xs.length, 0) else ([], 2)
theorem cliqueOf_len (xs : List Int) (k : Int) : (cliqueOf xs k).1.length ≤ xs.length := by
  unfold cliqueOf
  split
  · exact placesTo_len _ _ _
  · simp
theorem membersOf_len (m : Int) : (membersOf m).1.length ≤ 32 := by
  unfold membersOf
  split
  · exact nodesTo_len _ _
  · simp
def isMajority (a r : Int) : Bool := inR 256 a && (inR 256 r && decide (r < a))
def acknowledgeBy (own k first second : Int) : Int × Int :=
  if (allIn 4294967295 [own, first, second] && isNode k) = false then (0, 2)
  else if own.toNat.testBit k.toNat = false then (0, 5)
  else if first = own then (1, 0)
  else if first = (setN own.toNat k.toNat false : Nat) ∧ second = (setN own.toNat k.toNat false : Nat) then (0, 0)
  else if first = (setN own.toNat k.toNat false : Nat) ∧ second = own then (1, 0)
  else (-1, 0)
end

section
open Go.RowKit

/-- The cells of an array of numbers. -/
def cellsI (xs : List Int) : Array Value := (xs.map (Value.int .i64)).toArray
theorem cellsI_size (xs : List Int) : (cellsI xs).size = xs.length := by simp [cellsI]
theorem cellsI_at {xs : List Int} {i : Nat} (h : i < xs.length) : (cellsI xs)[i]? = some (.int .i64 (xs.getD i 0)) := by
  unfold cellsI
  rw [List.getElem?_toArray, List.getElem?_map, List.getElem?_eq_getElem h]
  simp [List.getD, List.getElem?_eq_getElem h]
theorem cellsI_set (xs : List Int) (i : Nat) (x : Int) : (cellsI xs).setIfInBounds i (.int .i64 x) = cellsI (xs.set i x) := by
  unfold cellsI
  rw [List.setIfInBounds_toArray, List.map_set]
theorem cellsI_one (xs : List Int) : (cellsI xs).all (·.oneCell') = true := by
  rw [Array.all_eq_true_iff_forall_mem]
  intro v hv
  simp only [cellsI, List.mem_toArray, List.mem_map] at hv
  obtain ⟨x, _, rfl⟩ := hv
  rfl
/-- Block b is an array of type T that holds the numbers xs. -/
def ArrAt (T : Nat) (w : World) (b : Nat) (xs : List Int) : Prop := w.heap[b]? = some (.cells (cellsI xs) T (0, 0))
section
variable {T b : Nat} {w w' : World} {xs : List Int}
theorem ArrAt.lt (h : ArrAt T w b xs) : b < w.heap.size := (Array.getElem?_eq_some_iff.1 h).1
theorem ArrAt.cell (h : ArrAt T w b xs) {i : Nat} (hi : i < xs.length) : w.cell? ⟨b, i, none⟩ = some (.int .i64 (xs.getD i 0)) := by
  rw [cell_of_row w b i _ _ (0, 0) h, cellsI_at hi]
theorem ArrAt.frozen (h : ArrAt T w b xs) (i : Nat) : w.frozen? ⟨b, i, none⟩ = false := frozen_of_row w b i _ _ h
theorem ArrAt.store (h : ArrAt T w b xs) (i : Nat) (x : Int) : ArrAt T (w.setCell ⟨b, i, none⟩ (.int .i64 x)) b (xs.set i x) := by
  have := heap_setCell_same w b i _ _ (.int .i64 x) h
  rw [cellsI_set] at this
  exact this
theorem ArrAt.grown {g : Option Nat} (h : ArrAt T w b xs) (hg : w.grownBy w' g) (hb : g ≠ some b) : ArrAt T w' b xs := (hg.block b h.lt (fun e => hb e.symm)).trans h
theorem ArrAt.below {B : Nat} (h : ArrAt T w b xs) (hb : Below B w w') (hlt : b < B) : ArrAt T w' b xs := (hb.block b hlt).trans h
theorem grown_setCell (w : World) (b i : Nat) (v : Value) : w.grownBy (w.setCell ⟨b, i, none⟩ v) (some b) :=
  ⟨rfl, rfl, rfl, by simp [World.setCell], fun k _ hk => heap_setCell_other _ _ _ _ (fun e => hk (by simp [e]))⟩
end

/-- How often each node is a member in the first k vectors. -/
def countTo (xs : List Int) (k : Nat) : List Int := (List.range 32).map fun j => ((countN (xs.take k) j : Nat) : Int)
/-- While the nodes ns of one more are counted: the first p of them. -/
def countMid (xs : List Int) (k : Nat) (ns : List Int) (p : Nat) : List Int := (List.range 32).map fun j => ((countN (xs.take k) j + (ns.take p).count (j : Int) : Nat) : Int)
theorem countMid_len (xs : List Int) (k : Nat) (ns : List Int) (p : Nat) : (countMid xs k ns p).length = 32 := by simp [countMid]
theorem countTo_len (xs : List Int) (k : Nat) : (countTo xs k).length = 32 := by simp [countTo]
theorem countTo_getD (xs : List Int) (k j : Nat) (h : j < 32) : (countTo xs k).getD j 0 = (countN (xs.take k) j : Nat) := by simp [countTo, List.getD, h]
theorem countMid_getD (xs : List Int) (k : Nat) (ns : List Int) (p j : Nat) (h : j < 32) : (countMid xs k ns p).getD j 0 = (countN (xs.take k) j + (ns.take p).count (j : Int) : Nat) := by simp [countMid, List.getD, h]
theorem countTo_zero (xs : List Int) : countTo xs 0 = List.replicate 32 0 := by
  refine List.eq_replicate_iff.2 ⟨countTo_len _ _, fun x hx => ?_⟩
  obtain ⟨i, _, rfl⟩ := List.mem_map.1 hx
  simp [countN]
theorem countMid_zero (xs : List Int) (k : Nat) (ns : List Int) : countMid xs k ns 0 = countTo xs k := by
  unfold countMid countTo
  simp
theorem countMid_succ (xs : List Int) (k : Nat) (ns : List Int) (p q : Nat) (hp : p < ns.length) (hq : ns.getD p 0 = (q : Int)) (hq2 : q < 32) :
    (countMid xs k ns p).set q ((countMid xs k ns p).getD q 0 + 1) = countMid xs k ns (p + 1) := by
  rw [countMid_getD _ _ _ _ _ hq2]
  apply List.ext_getElem (by simp [countMid])
  intro i h1 h2
  have hi : i < 32 := by simpa [countMid] using h2
  rw [List.getElem_set]
  simp only [countMid, List.getElem_map, List.getElem_range]
  rw [take_succ' ns p hp, hq, List.count_append]
  by_cases h : q = i
  · subst h
    rw [if_pos rfl]
    simp
    omega
  · have : ¬ ((q : Int) = (i : Int)) := by omega
    rw [if_neg h]
    simp [this]
theorem nodesTo_count (m j : Nat) (k : Nat) : (nodesTo m k).count (j : Int) = if j < k ∧ m.testBit j = true then 1 else 0 := by
  induction k with
  | zero => simp [nodesTo]
  | succ k ih =>
    rw [nodesTo_succ]
    cases hk : m.testBit k
    · rw [if_neg (by simp), ih]
      by_cases e : j = k
      · subst e; rw [if_neg (by simp [hk]), if_neg (by simp [hk])]
      · by_cases h : j < k ∧ m.testBit j = true
        · rw [if_pos h, if_pos ⟨by omega, h.2⟩]
        · rw [if_neg h, if_neg (fun h' => h ⟨by omega, h'.2⟩)]
    · rw [if_pos rfl, List.count_append, ih]
      by_cases e : j = k
      · subst e; rw [if_neg (by omega), if_pos ⟨by omega, hk⟩]; simp
      · have e' : ¬ ((k : Int) = (j : Int)) := by omega
        by_cases h : j < k ∧ m.testBit j = true
        · rw [if_pos h, if_pos ⟨by omega, h.2⟩]; simp [e']
        · rw [if_neg h, if_neg (fun h' => h ⟨by omega, h'.2⟩)]; simp [e']
theorem countN_succ (xs : List Int) (k j : Nat) (hk : k < xs.length) : countN (xs.take (k + 1)) j = countN (xs.take k) j + if (xs.getD k 0).toNat.testBit j = true then 1 else 0 := by
  unfold countN
  rw [take_succ' xs k hk, List.countP_append]
  simp [List.countP_cons]
theorem countMid_all (xs : List Int) (k m : Nat) (hk : k < xs.length) (hm : xs.getD k 0 = (m : Int)) : countMid xs k (nodesTo m 32) (nodesTo m 32).length = countTo xs (k + 1) := by
  unfold countMid countTo
  refine List.map_congr_left fun j hj => ?_
  have hj := List.mem_range.1 hj
  rw [List.take_length, nodesTo_count m j, countN_succ xs k j hk, hm, Int.toNat_natCast]
  by_cases h : m.testBit j = true
  · rw [if_pos ⟨hj, h⟩, if_pos h]
  · rw [if_neg (fun h' => h h'.2), if_neg h]
theorem nodesTo_at {m k p : Nat} (hp : p < (nodesTo m k).length) : ∃ q : Nat, (nodesTo m k).getD p 0 = (q : Int) ∧ q < k := by
  have h := getD_mem' hp
  unfold nodesTo at h
  obtain ⟨q, hq, e⟩ := List.mem_map.1 h
  exact ⟨q, e.symm, List.mem_range.1 (List.mem_filter.1 hq).1⟩
theorem countN_le (xs : List Int) (j : Nat) : countN xs j ≤ xs.length := List.countP_le_length
theorem countMid_le (xs : List Int) (k : Nat) (ns : List Int) (p q : Nat) (hq : q < 32) : ∃ c : Nat, (countMid xs k ns p).getD q 0 = (c : Int) ∧ c ≤ k + p := by
  refine ⟨_, countMid_getD _ _ _ _ _ hq, ?_⟩
  have h1 := countN_le (xs.take k) q
  have h2 : (ns.take p).count (q : Int) ≤ (ns.take p).length := List.count_le_length
  rw [List.length_take] at h1 h2
  omega
end

section

theorem isVec_iff {m : Int} : isVec m = true ↔ 0 ≤ m ∧ m ≤ 4294967295 := by simp [isVec, inR]
theorem isNode_iff {m : Int} : isNode m = true ↔ 0 ≤ m ∧ m ≤ 31 := by simp [isNode, inR]
theorem setN_back (m k : Nat) (b : Bool) : setN (setN m k b) k (m.testBit k) = m := by
  apply Nat.eq_of_testBit_eq
  intro j
  rw [setN_bit, setN_bit]
  by_cases e : j = k
  · subst e; simp
  · simp [e]
/-- Setting a node concerns this node alone. -/
theorem set_round {m k x : Int} {b : Bool} (h : setMember m k b = (x, 0)) : setMember x k (hasMember m k) = (m, 0) ∧ hasMember x k = b := by
  unfold setMember at h
  split at h
  · rename_i hv
    simp only [Bool.and_eq_true] at hv
    obtain ⟨hm, hk⟩ := hv
    have hm' := isVec_iff.1 hm
    have hk' := isNode_iff.1 hk
    obtain ⟨m, rfl⟩ := Int.eq_ofNat_of_zero_le hm'.1
    obtain ⟨k, rfl⟩ := Int.eq_ofNat_of_zero_le hk'.1
    simp only [Prod.mk.injEq, and_true, Int.toNat_natCast] at h
    subst h
    have hl := setN_lt (m := m) (k := k) (b := b) (by omega) (by omega)
    have hx : isVec ((setN m k b : Nat) : Int) = true := isVec_iff.2 (by omega)
    refine ⟨?_, ?_⟩
    · unfold setMember hasMember
      rw [hx, hk, hm, Int.toNat_natCast, Int.toNat_natCast, Int.toNat_natCast, if_pos (by rfl), Bool.true_and, Bool.true_and, setN_back]
    · unfold hasMember
      rw [hx, hk, Int.toNat_natCast, Int.toNat_natCast, setN_bit]
      simp
  · cases h
theorem members_round {m : Int} {xs : List Int} (h : membersOf m = (xs, 0)) : vectorOf xs = (m, 0) := by
  unfold membersOf at h
  split at h
  · rename_i hm
    have hm' := isVec_iff.1 hm
    obtain ⟨m, rfl⟩ := Int.eq_ofNat_of_zero_le hm'.1
    simp only [Prod.mk.injEq, and_true, Int.toNat_natCast] at h
    subst h
    exact vector_round (by omega)
  · cases h

theorem allIn_three' {a b c : Int} : allIn 4294967295 [a, b, c] = (isVec a && (isVec b && isVec c)) := by simp [allIn, isVec]
/-- What follows from a successor's vector. -/
theorem ack_round {own k f s x : Int} (h : acknowledgeBy own k f s = (x, 0)) : acknowledgeBy own k own s = (1, 0) ∧ ∃ wo, setMember own k false = (wo, 0) ∧ acknowledgeBy own k wo wo = (0, 0) := by
  unfold acknowledgeBy at h
  split at h
  · cases h
  · rename_i hv
    rw [Bool.not_eq_false, allIn_three'] at hv
    simp only [Bool.and_eq_true] at hv
    obtain ⟨⟨ho, hf, hs⟩, hk⟩ := hv
    split at h
    · cases h
    · rename_i hb
      rw [Bool.not_eq_false] at hb
      have ho' := isVec_iff.1 ho
      have hk' := isNode_iff.1 hk
      obtain ⟨own, rfl⟩ := Int.eq_ofNat_of_zero_le ho'.1
      obtain ⟨k, rfl⟩ := Int.eq_ofNat_of_zero_le hk'.1
      rw [Int.toNat_natCast, Int.toNat_natCast] at hb
      have hl := setN_lt (m := own) (k := k) (b := false) (by omega) (by omega)
      have hw : isVec ((setN own k false : Nat) : Int) = true := isVec_iff.2 (by omega)
      have hne : ((setN own k false : Nat) : Int) ≠ (own : Int) := by
        intro e
        have e' : setN own k false = own := by omega
        have := setN_bit own k k false
        rw [e', hb, if_pos rfl] at this
        cases this
      refine ⟨?_, ((setN own k false : Nat) : Int), ?_, ?_⟩
      · unfold acknowledgeBy
        rw [allIn_three', ho, hs, hk, if_neg (by simp), Int.toNat_natCast, Int.toNat_natCast, hb, if_neg (by simp), if_pos rfl]
      · unfold setMember
        rw [ho, hk, Int.toNat_natCast, Int.toNat_natCast, if_pos (by rfl)]
      · unfold acknowledgeBy
        rw [allIn_three', ho, hw, hk, if_neg (by simp), Int.toNat_natCast, Int.toNat_natCast, hb, if_neg (by simp), if_neg hne, if_pos ⟨rfl, rfl⟩]

theorem placesTo_count (xs : List Int) (x : Int) (k : Nat) (hk : k ≤ xs.length) : (placesTo xs x k).length = (xs.take k).count x := by
  induction k with
  | zero => simp [placesTo]
  | succ k ih =>
    rw [placesTo_succ, take_succ' xs k (by omega), List.count_append, ← ih (by omega)]
    by_cases h : xs.getD k 0 = x
    · rw [if_pos h, h, List.length_append]; simp
    · rw [if_neg h]
      have h2 : List.count x [xs.getD k 0] = 0 := by rw [List.count_eq_zero]; simpa using fun e => h e.symm
      rw [h2]; rfl
theorem placesTo_mem (xs : List Int) (x : Int) (n k : Nat) (hk : k < n) : ((k : Int) ∈ placesTo xs x n) ↔ xs.getD k 0 = x := by
  unfold placesTo
  constructor
  · intro h
    obtain ⟨j, hj, e⟩ := List.mem_map.1 h
    have : j = k := by omega
    subst this
    simpa using (List.mem_filter.1 hj).2
  · intro h
    exact List.mem_map.2 ⟨k, List.mem_filter.2 ⟨List.mem_range.2 hk, by simpa using h⟩, rfl⟩
theorem countN_most {xs : List Int} {x : Int} (hx : xs.length < 2 * xs.count x) (j : Nat) : decide (xs.length < 2 * countN xs j) = x.toNat.testBit j := by
  have h0 : xs.length = xs.countP (fun y => y.toNat.testBit j) + xs.countP (fun y => !y.toNat.testBit j) := by
    have := List.length_eq_countP_add_countP (fun y : Int => y.toNat.testBit j) (l := xs)
    rw [this]
    congr 1
    apply List.countP_congr
    intro y _
    simp
  have hc : xs.count x = xs.countP (fun y => y == x) := rfl
  unfold countN
  cases hb : x.toNat.testBit j
  · have h1 : xs.countP (fun y => y == x) ≤ xs.countP (fun y => !y.toNat.testBit j) := List.countP_mono_left (fun y _ h => by
      have : y = x := by simpa using h
      subst this
      simp [hb])
    rw [decide_eq_false_iff_not]
    omega
  · have h1 : xs.countP (fun y => y == x) ≤ xs.countP (fun y => y.toNat.testBit j) := List.countP_mono_left (fun y _ h => by
      have : y = x := by simpa using h
      subst this
      simp [hb])
    rw [decide_eq_true_eq]
    omega
theorem areVecs_elem {xs : List Int} (h : areVecs xs = true) {k : Nat} (hk : k < xs.length) : 0 ≤ xs.getD k 0 ∧ xs.getD k 0 ≤ 4294967295 := by
  simp only [areVecs, within, Bool.and_eq_true] at h
  exact allIn_iff.1 h.2 _ (getD_mem' hk)
/-- A vector that more than half of the list has is the agreed one. -/
theorem agreed_round {xs : List Int} {v : Int} (h : agreedMembers xs = (v, 0)) : 1 ≤ xs.length ∧ xs.length ≤ 32 ∧ ∀ k : Nat, k < xs.length →
    cliqueOf xs k = (placesTo xs (xs.getD k 0) xs.length, 0) ∧ (k : Int) ∈ placesTo xs (xs.getD k 0) xs.length ∧ (xs.length < 2 * (placesTo xs (xs.getD k 0) xs.length).length → v = xs.getD k 0) := by
  unfold agreedMembers at h
  split at h
  · rename_i hv
    simp only [Bool.and_eq_true, decide_eq_true_eq] at hv
    obtain ⟨h1, ha⟩ := hv
    simp only [Prod.mk.injEq, and_true] at h
    have h32 : xs.length ≤ 32 := by
      simp only [areVecs, within, Bool.and_eq_true, decide_eq_true_eq] at ha; omega
    refine ⟨h1, h32, fun k hk => ⟨?_, (placesTo_mem xs _ _ k hk).2 rfl, fun hm => ?_⟩⟩
    · unfold cliqueOf
      rw [if_pos (by rw [ha, decide_eq_true (by omega : (0 : Int) ≤ (k : Int)), decide_eq_true (by omega : (k : Int) < (xs.length : Int))]; rfl), Int.toNat_natCast]
    · rw [placesTo_count xs _ _ (Nat.le_refl _), List.take_length] at hm
      have hb := areVecs_elem ha hk
      have e : agreedTo xs 32 = (xs.getD k 0).toNat := by
        refine bits_ext (agreedTo_lt xs 32 (Nat.le_refl _)) (by omega) (fun j hj => ?_)
        rw [agreedTo_bit, countN_most hm j]
        simp [hj]
      rw [← h, e]
      omega
  · cases h
/-- The nodes of a clique have the same clique. -/
theorem clique_round {xs out : List Int} {k : Int} (h : cliqueOf xs k = (out, 0)) : 1 ≤ xs.length ∧ xs.length ≤ 32 ∧ ∀ j : Nat, j < xs.length →
    ∃ more, cliqueOf xs j = (more, 0) ∧ more.length ≤ 32 ∧ decide (more = out) = decide ((j : Int) ∈ out) := by
  unfold cliqueOf at h
  split at h
  · rename_i hv
    simp only [Bool.and_eq_true, decide_eq_true_eq] at hv
    obtain ⟨ha, h0, h1⟩ := hv
    obtain ⟨k, rfl⟩ := Int.eq_ofNat_of_zero_le h0
    simp only [Prod.mk.injEq, and_true, Int.toNat_natCast] at h
    subst h
    have h32 : xs.length ≤ 32 := by
      simp only [areVecs, within, Bool.and_eq_true, decide_eq_true_eq] at ha; omega
    refine ⟨by omega, h32, fun j hj => ⟨_, ?_, Nat.le_trans (placesTo_len xs (xs.getD j 0) xs.length) h32, ?_⟩⟩
    · unfold cliqueOf
      rw [if_pos (by rw [ha, decide_eq_true (by omega : (0 : Int) ≤ (j : Int)), decide_eq_true (by omega : (j : Int) < (xs.length : Int))]; rfl), Int.toNat_natCast]
    · rw [decide_eq_decide, placesTo_mem xs _ _ j hj]
      constructor
      · intro e
        have : (j : Int) ∈ placesTo xs (xs.getD j 0) xs.length := (placesTo_mem xs _ _ j hj).2 rfl
        rw [e] at this
        exact (placesTo_mem xs _ _ j hj).1 this
      · intro e
        rw [e]
  · cases h
theorem maj_not (a r : Int) : (isMajority a r && isMajority r a) = false := by
  rw [Bool.and_eq_false_iff]
  simp only [isMajority, inR, Bool.and_eq_false_iff, decide_eq_false_iff_not]
  omega
end
end Go.Proofs.Ytbdfnkhmnglpbaa
