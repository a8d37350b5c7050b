/-
  Chapter 16: a planner in memory: its frame, its table, the demands that wait.
-/
import Derived.Test.YtbbodgeoenjdkaaPl1
import Derived.Test.YtbbodgeoenjdkaaPlB
import Derived.Test.YtbbodgeoenjdkaaFnD
namespace Go.Proofs.Ytbbodgeoenjdkaa
open Go.RowKit Go.Maps

def plList (R S : Int) (T : Tab) (mb : Nat) : List Value := .int .i64 R :: .int .i64 S :: ((List.range 128).map (fun i => Value.int .i64 (T (i / 16) (i % 16))) ++ [.map (some mb)])
def plCells (R S : Int) (T : Tab) (mb : Nat) : Array Value := (plList R S T mb).toArray
theorem plCells_tab (R S : Int) (T : Tab) (mb r s : Nat) (hr : r < 8) (hs : s < 16) : (plCells R S T mb)[2 + r * 16 + s]? = some (.int .i64 (T r s)) := by
  unfold plCells plList
  rw [List.getElem?_toArray]
  rw [show 2 + r * 16 + s = (r * 16 + s) + 1 + 1 from by omega, List.getElem?_cons_succ, List.getElem?_cons_succ, List.getElem?_append_left (by rw [List.length_map, List.length_range]; omega), List.getElem?_map, List.getElem?_range (by omega)]
  simp only [Option.map_some]
  rw [show (r * 16 + s) / 16 = r from by omega, show (r * 16 + s) % 16 = s from by omega]
theorem plCells_map (R S : Int) (T : Tab) (mb : Nat) : (plCells R S T mb)[130]? = some (.map (some mb)) := by
  unfold plCells plList
  rw [List.getElem?_toArray, show 130 = 128 + 1 + 1 from rfl, List.getElem?_cons_succ, List.getElem?_cons_succ, List.getElem?_append_right (by rw [List.length_map, List.length_range]; exact Nat.le_refl _)]
  simp
def setTab (T : Tab) (r s : Nat) (v : Int) : Tab := fun r' s' => if s' = s ∧ r' = r then v else T r' s'
theorem plCells_set (R S : Int) (T : Tab) (mb r s : Nat) (v : Int) (hr : r < 8) (hs : s < 16) : (plCells R S T mb).setIfInBounds (2 + r * 16 + s) (.int .i64 v) = plCells R S (setTab T r s v) mb := by
  unfold plCells plList
  rw [List.setIfInBounds_toArray]
  congr 1
  rw [show 2 + r * 16 + s = (r * 16 + s) + 1 + 1 from by omega, List.set_cons_succ, List.set_cons_succ, List.set_append_left _ _ (by rw [List.length_map, List.length_range]; omega)]
  congr 3
  apply List.ext_getElem (by simp)
  intro i h1 h2
  have hi : i < 128 := by simpa using h2
  rw [List.getElem_set]
  simp only [List.getElem_map, List.getElem_range, setTab]
  by_cases e : r * 16 + s = i
  · subst e
    rw [if_pos rfl, if_pos ⟨by omega, by omega⟩]
  · rw [if_neg e, if_neg (fun h => e (by omega))]
theorem plCells_same {R S : Int} {T U : Tab} {mb : Nat} (h : sameTab T U 8 16) : plCells R S T mb = plCells R S U mb := by
  unfold plCells plList
  congr 4
  refine List.map_congr_left fun i hi => ?_
  have := List.mem_range.1 hi
  rw [h _ _ (by omega) (by omega)]

/-- All old memory but two blocks is as it was. -/
structure Kp (w w' : World) (p q : Nat) : Prop where
  os : w'.os = w.os
  tape : w'.tape = w.tape
  output : w'.output = w.output
  size : w.heap.size ≤ w'.heap.size
  block : ∀ k, k < w.heap.size → k ≠ p → k ≠ q → w'.heap[k]? = w.heap[k]?
section
variable {w w' w'' : World} {p q g : Nat}
theorem Kp.refl (w : World) (p q : Nat) : Kp w w p q := ⟨rfl, rfl, rfl, Nat.le_refl _, fun _ _ _ _ => rfl⟩
theorem Kp.trans (h1 : Kp w w' p q) (h2 : Kp w' w'' p q) : Kp w w'' p q :=
  ⟨h2.os.trans h1.os, h2.tape.trans h1.tape, h2.output.trans h1.output, Nat.le_trans h1.size h2.size, fun k hk a b => (h2.block k (Nat.lt_of_lt_of_le hk h1.size) a b).trans (h1.block k hk a b)⟩
theorem Kp.of_below (h : Below w.heap.size w w') : Kp w w' p q := ⟨h.os, h.tape, h.output, h.size, fun k hk _ _ => h.block k hk⟩
theorem Kp.of_grown (h : w.grownBy w' (some g)) (hg : g = p ∨ g = q) : Kp w w' p q :=
  ⟨h.os, h.tape, h.output, h.size, fun k hk a b => h.block k hk (fun e => by cases e; rcases hg with rfl | rfl; exact a rfl; exact b rfl)⟩
theorem Kp.below {B : Nat} (h : Kp w w' p q) (hp : B ≤ p) (hq : B ≤ q) (hB : B ≤ w.heap.size) : Below B w w' :=
  ⟨h.os, h.tape, h.output, h.size, fun k hk => h.block k (by omega) (by omega) (by omega)⟩
theorem Kp.own {base E size n : Nat} {v : Value} {cs : List Value} (h : Kp w w' p q) (ho : w.ownsRow base E size v n cs) (hp : p < base) (hq : q < base) : w'.ownsRow base E size v n cs := by
  obtain ⟨h1, h2⟩ := ho
  refine ⟨h1, ?_⟩
  rcases h2 with h2 | ⟨g, cap, cur, e, hg, hh, r⟩
  · exact .inl h2
  · exact .inr ⟨g, cap, cur, e, hg, by rw [h.block g (Array.getElem?_eq_some_iff.1 hh).1 (by omega) (by omega)]; exact hh, r⟩
end
/-- The demands that wait when the first k are done. -/
def waitF (t : List Dm) (k : Nat) : Int → Option Value := fun z => if (k : Int) ≤ z ∧ z < t.length then some (dmVal (dmOf t z.toNat)) else none
structure PlAt (w : World) (p mb : Nat) (R S : Nat) (T : Tab) (t : List Dm) (k : Nat) : Prop where
  blk : w.heap[p]? = some (.cells (plCells R S T mb) 87 (0, 0))
  map : FunMap Try.prog 2 w mb (t.length - k) (waitF t k)
  ne : p ≠ mb
section
variable {w w' : World} {p mb R S k : Nat} {T U : Tab} {t : List Dm}
theorem PlAt.lt (h : PlAt w p mb R S T t k) : p < w.heap.size := (Array.getElem?_eq_some_iff.1 h.blk).1
theorem PlAt.mlt (h : PlAt w p mb R S T t k) : mb < w.heap.size := h.map.lt
theorem PlAt.c0 (h : PlAt w p mb R S T t k) : w.cell? ⟨p, 0, none⟩ = some (.int .i64 (R : Int)) := (cell_of_row w p 0 _ _ (0, 0) h.blk).trans rfl
theorem PlAt.c1 (h : PlAt w p mb R S T t k) : w.cell? ⟨p, 1, none⟩ = some (.int .i64 (S : Int)) := (cell_of_row w p 1 _ _ (0, 0) h.blk).trans rfl
theorem PlAt.cm (h : PlAt w p mb R S T t k) : w.cell? ⟨p, 130, none⟩ = some (.map (some mb)) := (cell_of_row w p 130 _ _ (0, 0) h.blk).trans (plCells_map ..)
theorem PlAt.ct (h : PlAt w p mb R S T t k) {r s : Nat} (hr : r < 8) (hs : s < 16) : w.cell? ⟨p, 2 + r * 16 + s, none⟩ = some (.int .i64 (T r s)) := (cell_of_row w p _ _ _ (0, 0) h.blk).trans (plCells_tab _ _ _ _ _ _ hr hs)
theorem PlAt.f (h : PlAt w p mb R S T t k) (i : Nat) : w.frozen? ⟨p, i, none⟩ = false := frozen_of_row w p i _ _ h.blk
theorem PlAt.below {B : Nat} (h : PlAt w p mb R S T t k) (hb : Below B w w') (hp : p < B) (hm : mb < B) : PlAt w' p mb R S T t k :=
  ⟨(hb.block p hp).trans h.blk, by
    obtain ⟨D, ⟨es, clock, h1, h2⟩, h3⟩ := h.map
    exact ⟨D, ⟨es, clock, (hb.block mb hm).trans h1, h2⟩, h3⟩, h.ne⟩
theorem PlAt.still (h : PlAt w p mb R S T t k) (hb : Below w.heap.size w w') : PlAt w' p mb R S T t k := h.below hb h.lt h.mlt
theorem PlAt.same (h : PlAt w p mb R S T t k) (e : sameTab T U 8 16) : PlAt w p mb R S U t k := ⟨by rw [h.blk, plCells_same e], h.map, h.ne⟩
/-- A cell of the table written. -/
theorem PlAt.set (h : PlAt w p mb R S T t k) {r s : Nat} (v : Int) (hr : r < 8) (hs : s < 16) : PlAt (w.setCell ⟨p, 2 + r * 16 + s, none⟩ (.int .i64 v)) p mb R S (setTab T r s v) t k := by
  refine ⟨?_, ?_, h.ne⟩
  · rw [heap_setCell_same w p _ _ _ _ h.blk, plCells_set _ _ _ _ _ _ _ hr hs]
  · exact h.map.kept (grown_set w p _ _) (by intro e; cases e; exact h.ne rfl)
end
theorem run_build_pl (R S : Int) (mb : Nat) (w : World) : (Instr.build 87 #[(0, .int .i64 R), (1, .int .i64 S), (3, .map (some mb))]).run Try.prog w = .ok (.agg (plCells R S (fun _ _ => 0) mb)) w := by kernel_rfl
theorem zeroDm (w : World) : (zeroValue 38).run Try.prog w = .ok (dmVal Dm.zero) w := by kernel_rfl
theorem und_i64 : Try.prog.underlying 2 = some (.int .i64) := by kernel_rfl
theorem waitF_at {t : List Dm} {k i : Nat} (h1 : k ≤ i) (h2 : i < t.length) : waitF t k (i : Int) = some (dmVal (dmOf t i)) := by
  unfold waitF; rw [if_pos ⟨by omega, by omega⟩, Int.toNat_natCast]
theorem waitF_out {t : List Dm} {k i : Nat} (h : i < k ∨ t.length ≤ i) : waitF t k (i : Int) = none := by
  unfold waitF; rw [if_neg (by omega)]
theorem waitF_next (t : List Dm) (k : Nat) : (fun z : Int => if z = (k : Int) then none else waitF t k z) = waitF t (k + 1) := by
  funext z
  unfold waitF
  by_cases e : z = (k : Int)
  · rw [if_pos e, if_neg (by omega)]
  · rw [if_neg e]
    by_cases h : (k : Int) ≤ z ∧ z < t.length
    · rw [if_pos h, if_pos ⟨by omega, h.2⟩]
    · rw [if_neg h, if_neg (by omega)]
/-- The entries of the first k, while they are put in. -/
def putF (t : List Dm) (k : Nat) : Int → Option Value := fun z => if 0 ≤ z ∧ z < k then some (dmVal (dmOf t z.toNat)) else none
theorem putF_next (t : List Dm) (k : Nat) : (fun z : Int => if z = (k : Int) then some (dmVal (dmOf t k)) else putF t k z) = putF t (k + 1) := by
  funext z
  unfold putF
  by_cases e : z = (k : Int)
  · subst e; rw [if_pos rfl, if_pos ⟨by omega, by omega⟩, Int.toNat_natCast]
  · rw [if_neg e]
    by_cases h : 0 ≤ z ∧ z < (k : Int)
    · rw [if_pos h, if_pos ⟨h.1, by omega⟩]
    · rw [if_neg h, if_neg (by omega)]
theorem putF_all (t : List Dm) : putF t t.length = waitF t 0 := by
  funext z; unfold putF waitF; simp
theorem putF_zero (t : List Dm) : putF t 0 = fun _ => none := by
  funext z; unfold putF; rw [if_neg (by omega)]
theorem putF_out (t : List Dm) (k : Nat) : putF t k (k : Int) = none := by unfold putF; rw [if_neg (by omega)]
end Go.Proofs.Ytbbodgeoenjdkaa
