/-
  impl.newCyclicCode: a struct with a table of 256 numbers in a block of the call's own.
-/
import Derived.Test.YtadmpfmpmpdbeaaC2d
import Derived.StillTailTactics
namespace Go.Proofs.Ytadmpfmpmpdbeaa
open Go.RowKit

/-- The cells of a cyclicCode. -/
def cycCells (W G : Int) (tab : List Int) : Array Value := (.int .i64 W :: .int .i64 G :: tab.map (.int .i64)).toArray
theorem run_build_cyc (W G : Int) (w : World) : (Instr.build 70 #[(0, .int .i64 W), (1, .int .i64 G)]).run Try.prog w = .ok (.agg (cycCells W G (List.replicate 256 0))) w := by kernel_rfl
theorem wpList_build_cyc {ops : Array Oper} {rest : List Oper} {o : Oper} {a : Act} {Q : Exit → Act → World → Prop} (w : World) (hgd : o.guard = none) (x y : Operand) (ho : o.op = .build 70 #[(0, x), (1, y)]) (W G : Int) (cs : Array Value) (hcs : cs = cycCells W G (List.replicate 256 0))
    (hx : a.eval x = .int .i64 W) (hy : a.eval y = .int .i64 G) (h : wpList Try.prog ops Q rest (a.put o.dst (.agg cs)) w) : wpList Try.prog ops Q (o :: rest) a w := by
  refine wpList_plain hgd fun K hK => ?_
  have hrun := run_build_cyc W G w
  rw [← hcs] at hrun
  unfold Oper.wp
  simp [execOp, ho, hx, hy, hrun, Result.andThen]
  exact hK _ _ h

/-- The table while it is filled: its first k entries. -/
def tabTo {W : Nat} (g : BitVec W) (k : Nat) : List Int := (List.range 256).map fun i => if i < k then tabOf g i else 0
section
variable {W : Nat} {g : BitVec W}
theorem tabOf_zero : tabOf g 0 = 0 := by
  unfold tabOf regOf
  have : bl (bitsOf ((0 : Nat) : Int) 8) = List.replicate 8 false := by decide
  rw [this, fbs_zero]; rfl
theorem tabTo_one : tabTo g 1 = List.replicate 256 0 := by
  unfold tabTo
  refine List.eq_replicate_iff.2 ⟨by simp, fun x hx => ?_⟩
  obtain ⟨i, _, rfl⟩ := List.mem_map.1 hx
  split
  · have : i = 0 := by omega
    subst this; exact tabOf_zero
  · rfl
theorem tabTo_len (k : Nat) : (tabTo g k).length = 256 := by simp [tabTo]
theorem tabTo_getD (k i : Nat) (h : i < 256) : (tabTo g k).getD i 0 = if i < k then tabOf g i else 0 := by
  simp [tabTo, List.getD, h]
theorem tabTo_all : tabTo g 256 = (List.range 256).map (tabOf g) := by
  unfold tabTo
  refine List.map_congr_left fun i hi => ?_
  rw [if_pos (List.mem_range.1 hi)]
theorem tabTo_succ (k : Nat) : (tabTo g k).set k (tabOf g k) = tabTo g (k + 1) := by
  apply List.ext_getElem (by simp [tabTo])
  intro i h1 h2
  have hi : i < 256 := by simpa [tabTo] using h2
  rw [List.getElem_set]
  simp only [tabTo, List.getElem_map, List.getElem_range]
  by_cases h : k = i
  · subst h; simp
  · rw [if_neg h]
    by_cases h' : i < k
    · rw [if_pos h', if_pos (by omega)]
    · rw [if_neg h', if_neg (by omega)]
theorem cycCells_at (A B : Int) (tab : List Int) (i : Nat) (h : i < tab.length) : (cycCells A B tab)[2 + i]? = some (.int .i64 (tab.getD i 0)) := by
  unfold cycCells
  rw [List.getElem?_toArray, show 2 + i = i + 1 + 1 from by omega, List.getElem?_cons_succ, List.getElem?_cons_succ, List.getElem?_map, List.getElem?_eq_getElem h]
  simp [List.getD, List.getElem?_eq_getElem h]
theorem cycCells_set (A B : Int) (tab : List Int) (i : Nat) (x : Int) : (cycCells A B tab).setIfInBounds (2 + i) (.int .i64 x) = cycCells A B (tab.set i x) := by
  unfold cycCells
  rw [List.setIfInBounds_toArray, show 2 + i = i + 1 + 1 from by omega, List.set_cons_succ, List.set_cons_succ, map_set]
end
/-- Entry number k out of entry number k / 2. -/
theorem bits_half (k : Nat) : bl (bitsOf (k : Int) 8) = (bl (bitsOf ((k / 2 : Nat) : Int) 8)).drop 1 ++ [decide (((k : Int) % 2) = 1)] := by
  have e : (k : Int) = 2 * ((k / 2 : Nat) : Int) + (k : Int) % 2 := by omega
  have e2 : ∀ m b : Int, 0 ≤ b → b ≤ 1 → bitsOf (2 * m + b) 8 = topBits m 7 7 ++ [b] := by
    intro m b h0 h1
    unfold bitsOf
    rw [topBits_succ]
    have h1 : topBits (2 * m + b) 8 7 = topBits m 7 7 := by
      unfold topBits
      refine List.map_congr_left fun i hi => ?_
      have hi := List.mem_range.1 hi
      unfold bitAt
      rw [show 8 - 1 - i = (7 - 1 - i) + 1 from by omega, Int.pow_succ, Int.mul_comm (2 ^ (7 - 1 - i)) 2, ← Int.ediv_ediv_of_nonneg (by omega), show (2 * m + b) / 2 = m from by omega]
    rw [h1]
    congr 1
    unfold bitAt
    simp; omega
  have e3 : ∀ m : Int, (bitsOf m 8).drop 1 = topBits m 7 7 := by
    intro m
    unfold bitsOf topBits
    rw [show (List.range 8) = 0 :: (List.range 7).map (· + 1) from by decide, List.map_cons, List.drop_succ_cons, List.drop_zero, List.map_map]
    refine List.map_congr_left fun i hi => ?_
    have hi := List.mem_range.1 hi
    simp only [Function.comp]
    unfold bitAt
    rw [show 8 - 1 - (i + 1) = 7 - 1 - i from by omega]
  have e4 : bitsOf (k : Int) 8 = topBits ((k / 2 : Nat) : Int) 7 7 ++ [(k : Int) % 2] := by
    conv => lhs; rw [e]
    exact e2 _ _ (by omega) (by omega)
  rw [e4, bl_append, show bl (bitsOf ((k / 2 : Nat) : Int) 8) = (bitsOf ((k / 2 : Nat) : Int) 8).map (fun x => decide (x = 1)) from rfl, ← List.map_drop, e3]
  rfl
theorem bits_top (k : Nat) (h : k < 128) : bl (bitsOf (k : Int) 8) = false :: (bl (bitsOf (k : Int) 8)).drop 1 := by
  have hl : (bl (bitsOf (k : Int) 8)).length = 8 := by rw [bl_len, bitsOf_len]
  rcases hb : bl (bitsOf (k : Int) 8) with _ | ⟨b, bs⟩
  · rw [hb] at hl; simp at hl
  · have : b = decide (bitAt (k : Int) 8 0 = 1) := by
      have h2 := congrArg List.head? hb
      simp only [List.head?_cons] at h2
      unfold bl bitsOf topBits at h2
      rw [show (List.range 8) = 0 :: (List.range 7).map (· + 1) from by decide] at h2
      simp only [List.map_cons, List.head?_cons, Option.some.injEq] at h2
      exact h2.symm
    have hz : bitAt (k : Int) 8 0 = 0 := by unfold bitAt; omega
    rw [hz] at this
    subst this; rfl
theorem tabOf_half {W : Nat} (g : BitVec W) (k : Nat) (h : k < 256) : fbs g 0#W (bl (bitsOf (k : Int) 8)) = fb g (fbs g 0#W (bl (bitsOf ((k / 2 : Nat) : Int) 8))) (decide ((k : Int) % 2 = 1)) := by
  rw [bits_half k, fbs_snoc]
  congr 1
  conv => rhs; rw [bits_top (k / 2) (by omega)]
  show _ = fbs g (fb g 0#W false) _
  rw [fb_zero]
end Go.Proofs.Ytadmpfmpmpdbeaa
