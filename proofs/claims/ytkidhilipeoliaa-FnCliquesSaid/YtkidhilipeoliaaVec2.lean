/-
  Chapter 5: counting, for each node, the vectors in which it is a member; an array's cells. No program is named here.
-/
import Derived.Test.YtkidhilipeoliaaVec
import Derived.Laws.Rows
import Derived.Laws.Tables
namespace Go.Proofs.Ytkidhilipeoliaa
open Go.RowKit

/-- The cells of an array of numbers. -/
def cellsI (xs : List Int) : Array Value := (xs.map (Value.int .i64)).toArray
theorem cellsI_size (xs : List Int) : (cellsI xs).size = xs.length := by simp [cellsI]
theorem cellsI_at {xs : List Int} {i : Nat} (h : i < xs.length) : (cellsI xs)[i]? = some (.int .i64 (xs.getD i 0)) := by
  unfold cellsI
  rw [List.getElem?_toArray, List.getElem?_map, List.getElem?_eq_getElem h]
  simp [List.getD, List.getElem?_eq_getElem h]
theorem cellsI_set (xs : List Int) (i : Nat) (x : Int) : (cellsI xs).setIfInBounds i (.int .i64 x) = cellsI (xs.set i x) := by
  unfold cellsI
  rw [List.setIfInBounds_toArray, List.map_set]
theorem cellsI_one (xs : List Int) : (cellsI xs).all (·.oneCell') = true := by
  rw [Array.all_eq_true_iff_forall_mem]
  intro v hv
  simp only [cellsI, List.mem_toArray, List.mem_map] at hv
  obtain ⟨x, _, rfl⟩ := hv
  rfl
/-- Block b is an array of type T that holds the numbers xs. -/
def ArrAt (T : Nat) (w : World) (b : Nat) (xs : List Int) : Prop := w.heap[b]? = some (.cells (cellsI xs) T (0, 0))
section
variable {T b : Nat} {w w' : World} {xs : List Int}
theorem ArrAt.lt (h : ArrAt T w b xs) : b < w.heap.size := (Array.getElem?_eq_some_iff.1 h).1
theorem ArrAt.cell (h : ArrAt T w b xs) {i : Nat} (hi : i < xs.length) : w.cell? ⟨b, i, none⟩ = some (.int .i64 (xs.getD i 0)) := by
  rw [cell_of_row w b i _ _ (0, 0) h, cellsI_at hi]
theorem ArrAt.frozen (h : ArrAt T w b xs) (i : Nat) : w.frozen? ⟨b, i, none⟩ = false := frozen_of_row w b i _ _ h
theorem ArrAt.store (h : ArrAt T w b xs) (i : Nat) (x : Int) : ArrAt T (w.setCell ⟨b, i, none⟩ (.int .i64 x)) b (xs.set i x) := by
  have := heap_setCell_same w b i _ _ (.int .i64 x) h
  rw [cellsI_set] at this
  exact this
theorem ArrAt.grown {g : Option Nat} (h : ArrAt T w b xs) (hg : w.grownBy w' g) (hb : g ≠ some b) : ArrAt T w' b xs := (hg.block b h.lt (fun e => hb e.symm)).trans h
theorem ArrAt.below {B : Nat} (h : ArrAt T w b xs) (hb : Below B w w') (hlt : b < B) : ArrAt T w' b xs := (hb.block b hlt).trans h
theorem grown_setCell (w : World) (b i : Nat) (v : Value) : w.grownBy (w.setCell ⟨b, i, none⟩ v) (some b) :=
  ⟨rfl, rfl, rfl, by simp [World.setCell], fun k _ hk => heap_setCell_other _ _ _ _ (fun e => hk (by simp [e]))⟩
end

/-- How often each node is a member in the first k vectors. -/
def countTo (xs : List Int) (k : Nat) : List Int := (List.range 32).map fun j => ((countN (xs.take k) j : Nat) : Int)
/-- While the nodes ns of one more are counted: the first p of them. -/
def countMid (xs : List Int) (k : Nat) (ns : List Int) (p : Nat) : List Int := (List.range 32).map fun j => ((countN (xs.take k) j + (ns.take p).count (j : Int) : Nat) : Int)
theorem countMid_len (xs : List Int) (k : Nat) (ns : List Int) (p : Nat) : (countMid xs k ns p).length = 32 := by simp [countMid]
theorem countTo_len (xs : List Int) (k : Nat) : (countTo xs k).length = 32 := by simp [countTo]
theorem countTo_getD (xs : List Int) (k j : Nat) (h : j < 32) : (countTo xs k).getD j 0 = (countN (xs.take k) j : Nat) := by simp [countTo, List.getD, h]
theorem countMid_getD (xs : List Int) (k : Nat) (ns : List Int) (p j : Nat) (h : j < 32) : (countMid xs k ns p).getD j 0 = (countN (xs.take k) j + (ns.take p).count (j : Int) : Nat) := by simp [countMid, List.getD, h]
theorem countTo_zero (xs : List Int) : countTo xs 0 = List.replicate 32 0 := by
  refine List.eq_replicate_iff.2 ⟨countTo_len _ _, fun x hx => ?_⟩
  obtain ⟨i, _, rfl⟩ := List.mem_map.1 hx
  simp [countN]
theorem countMid_zero (xs : List Int) (k : Nat) (ns : List Int) : countMid xs k ns 0 = countTo xs k := by
  unfold countMid countTo
  simp
theorem countMid_succ (xs : List Int) (k : Nat) (ns : List Int) (p q : Nat) (hp : p < ns.length) (hq : ns.getD p 0 = (q : Int)) (hq2 : q < 32) :
    (countMid xs k ns p).set q ((countMid xs k ns p).getD q 0 + 1) = countMid xs k ns (p + 1) := by
  rw [countMid_getD _ _ _ _ _ hq2]
  apply List.ext_getElem (by simp [countMid])
  intro i h1 h2
  have hi : i < 32 := by simpa [countMid] using h2
  rw [List.getElem_set]
  simp only [countMid, List.getElem_map, List.getElem_range]
  rw [take_succ' ns p hp, hq, List.count_append]
  by_cases h : q = i
  · subst h
    rw [if_pos rfl]
    simp
    omega
  · have : ¬ ((q : Int) = (i : Int)) := by omega
    rw [if_neg h]
    simp [this]
theorem nodesTo_count (m j : Nat) (k : Nat) : (nodesTo m k).count (j : Int) = if j < k ∧ m.testBit j = true then 1 else 0 := by
  induction k with
  | zero => simp [nodesTo]
  | succ k ih =>
    rw [nodesTo_succ]
    cases hk : m.testBit k
    · rw [if_neg (by simp), ih]
      by_cases e : j = k
      · subst e; rw [if_neg (by simp [hk]), if_neg (by simp [hk])]
      · by_cases h : j < k ∧ m.testBit j = true
        · rw [if_pos h, if_pos ⟨by omega, h.2⟩]
        · rw [if_neg h, if_neg (fun h' => h ⟨by omega, h'.2⟩)]
    · rw [if_pos rfl, List.count_append, ih]
      by_cases e : j = k
      · subst e; rw [if_neg (by omega), if_pos ⟨by omega, hk⟩]; simp
      · have e' : ¬ ((k : Int) = (j : Int)) := by omega
        by_cases h : j < k ∧ m.testBit j = true
        · rw [if_pos h, if_pos ⟨by omega, h.2⟩]; simp [e']
        · rw [if_neg h, if_neg (fun h' => h ⟨by omega, h'.2⟩)]; simp [e']
theorem countN_succ (xs : List Int) (k j : Nat) (hk : k < xs.length) : countN (xs.take (k + 1)) j = countN (xs.take k) j + if (xs.getD k 0).toNat.testBit j = true then 1 else 0 := by
  unfold countN
  rw [take_succ' xs k hk, List.countP_append]
  simp [List.countP_cons]
theorem countMid_all (xs : List Int) (k m : Nat) (hk : k < xs.length) (hm : xs.getD k 0 = (m : Int)) : countMid xs k (nodesTo m 32) (nodesTo m 32).length = countTo xs (k + 1) := by
  unfold countMid countTo
  refine List.map_congr_left fun j hj => ?_
  have hj := List.mem_range.1 hj
  rw [List.take_length, nodesTo_count m j, countN_succ xs k j hk, hm, Int.toNat_natCast]
  by_cases h : m.testBit j = true
  · rw [if_pos ⟨hj, h⟩, if_pos h]
  · rw [if_neg (fun h' => h h'.2), if_neg h]
theorem nodesTo_at {m k p : Nat} (hp : p < (nodesTo m k).length) : ∃ q : Nat, (nodesTo m k).getD p 0 = (q : Int) ∧ q < k := by
  have h := getD_mem' hp
  unfold nodesTo at h
  obtain ⟨q, hq, e⟩ := List.mem_map.1 h
  exact ⟨q, e.symm, List.mem_range.1 (List.mem_filter.1 hq).1⟩
theorem countN_le (xs : List Int) (j : Nat) : countN xs j ≤ xs.length := List.countP_le_length
theorem countMid_le (xs : List Int) (k : Nat) (ns : List Int) (p q : Nat) (hq : q < 32) : ∃ c : Nat, (countMid xs k ns p).getD q 0 = (c : Int) ∧ c ≤ k + p := by
  refine ⟨_, countMid_getD _ _ _ _ _ hq, ?_⟩
  have h1 := countN_le (xs.take k) q
  have h2 : (ns.take p).count (q : Int) ≤ (ns.take p).length := List.count_le_length
  rw [List.length_take] at h1 h2
  omega
end Go.Proofs.Ytkidhilipeoliaa
