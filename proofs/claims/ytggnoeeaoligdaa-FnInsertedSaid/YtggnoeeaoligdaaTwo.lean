/-
  Chapter 2: a register fed with a bit and with a list of bits, on both sides; valid codes.
  spec.l02Feed.
  Valid codes on both sides; the errors in common.
  spec.l02Code; CrcOfBits, SyndromeOf, SeedAfter on the specification's side.
  impl.newCyclicCode: a struct with a table of 256 numbers in a block of the call's own.
  impl.newCyclicCode, walked.
  impl.CrcOfBits, SyndromeOf, SeedAfter.
-/
import Derived.Test.YtggnoeeaoligdaaReg
import Derived.Test.YtggnoeeaoligdaaOne
import Derived.Deep.QuietTactic
import Derived.BigQuiet
import Derived.StillTailTactics
namespace Go.Proofs.Ytggnoeeaoligdaa
section
open Go.RowKit

/-- A quiet call whose contract says 'w = w''. -/
theorem quiet_w {P : Program} {f : FuncId} {args : Array Value} {w : World} {n : Nat} {v : Value}
    (h : Calls P f args (w.drewN n) fun e w' => e = .returned v ∧ w.drewN n = w') : Calls P f args (w.drewN n) fun e w'' => e = .returned v ∧ ∃ m, w'' = w.drewN m :=
  h.mono fun _ _ ⟨he, hm⟩ => ⟨he, n, hm.symm⟩
/-- The first two cells of a cyclicCode, or of a Crc: width and polynomial. -/
def CodeAt (w : World) (p W : Nat) (G : Int) : Prop := w.cell? ⟨p, 0, none⟩ = some (.int .i64 W) ∧ w.cell? ⟨p, 1, none⟩ = some (.int .i64 G)
end

section
open Go.RowKit

end

section
open Go.RowKit

theorem isCrc_lowW {wd p : Int} (h : wd < 3) : isCrc wd p = false := by unfold isCrc; rw [decide_eq_false (show ¬ 3 ≤ wd by omega)]; rfl
theorem isCrc_highW {wd p : Int} (h : 24 < wd) : isCrc wd p = false := by unfold isCrc; rw [decide_eq_false (show ¬ wd ≤ 24 by omega)]; simp
theorem isCrc_lowP {wd p : Int} (h : p < 1) : isCrc wd p = false := by unfold isCrc; rw [decide_eq_false (show ¬ 1 ≤ p by omega)]; simp
theorem isCrc_highP {W : Nat} {p : Int} (h : 2 ^ W - 1 < p) : isCrc (W : Int) p = false := by unfold isCrc; rw [Int.toNat_natCast, decide_eq_false (show ¬ p ≤ 2 ^ W - 1 by omega)]; simp
theorem isCrc_even {W : Nat} {p : Int} (h1 : 3 ≤ W) (h2 : W ≤ 24) (h3 : 1 ≤ p) (h4 : p ≤ 2 ^ W - 1) : isCrc (W : Int) p = decide (p % 2 = 1) := by
  unfold isCrc
  rw [Int.toNat_natCast, decide_eq_true (show (3 : Int) ≤ W by omega), decide_eq_true (show (W : Int) ≤ 24 by omega), decide_eq_true h3, decide_eq_true h4]
  simp
theorem beq_dec (a b : Int) : (a == b) = decide (a = b) := by by_cases h : a = b <;> simp [h]

end

section
open Go.RowKit

/-- What a valid code and seed mean. -/
theorem crcCode_zero {wd p s : Int} (h : crcCode wd p s = 0) : ∃ (W : Nat) (g r : BitVec W), wd = (W : Int) ∧ 3 ≤ W ∧ W ≤ 24 ∧ p = (g.toNat : Int) ∧ g.getLsbD 0 = true ∧ s = (r.toNat : Int) := by
  unfold crcCode at h
  split at h
  · omega
  · rename_i h1
    split at h
    · omega
    · rename_i h2
      obtain ⟨W, g, rfl, a, b, rfl, c⟩ := isCrc_get (by simpa using h1)
      obtain ⟨r, rfl⟩ := seedIn_get (by simpa using h2)
      exact ⟨W, g, r, rfl, a, b, rfl, c, rfl⟩
theorem crcCode_put {W : Nat} {g : BitVec W} (r : BitVec W) (h1 : 3 ≤ W) (h2 : W ≤ 24) (hg : g.getLsbD 0 = true) : crcCode (W : Int) (g.toNat : Int) (r.toNat : Int) = 0 := by
  unfold crcCode
  rw [isCrc_put h1 h2 hg, seedIn_put r]; rfl
theorem crcCode_cases (wd p s : Int) : crcCode wd p s = 0 ∨ crcCode wd p s = 1 ∨ crcCode wd p s = 2 := by
  unfold crcCode
  split
  · simp
  · split <;> simp
theorem cob_code {wd p s : Int} {xs : List Int} (h : crcCode wd p s ≠ 0) : crcOfBits wd p s xs = (0, crcCode wd p s) := by unfold crcOfBits; rw [if_pos h]
theorem cob_3 {wd p s : Int} {xs : List Int} (h : crcCode wd p s = 0) (hb : isBits xs = false) : crcOfBits wd p s xs = (0, 3) := by unfold crcOfBits; rw [if_neg (by simp [h]), if_pos hb]
theorem cob_0 {wd p s : Int} {xs : List Int} (h : crcCode wd p s = 0) (hb : isBits xs = true) : crcOfBits wd p s xs = (crcRaw wd p s xs, 0) := by unfold crcOfBits; rw [if_neg (by simp [h]), if_neg (by simp [hb])]

theorem struct_cells {w : World} (wd p : Int) (T : Nat) : (w.alloc (.cells #[.int .i64 wd, .int .i64 p] T)).cell? ⟨w.heap.size, 0, none⟩ = some (.int .i64 wd) ∧ (w.alloc (.cells #[.int .i64 wd, .int .i64 p] T)).cell? ⟨w.heap.size, 1, none⟩ = some (.int .i64 p) :=
  ⟨by rw [World.cell?_alloc_at _ _ _ _ rfl]; rfl, by rw [World.cell?_alloc_at _ _ _ _ rfl]; rfl⟩

end

section
open Go.RowKit

/-- The cells of a cyclicCode. -/
def cycCells (W G : Int) (tab : List Int) : Array Value := (.int .i64 W :: .int .i64 G :: tab.map (.int .i64)).toArray
/-- The table while it is filled: its first k entries. -/
def tabTo {W : Nat} (g : BitVec W) (k : Nat) : List Int := (List.range 256).map fun i => if i < k then tabOf g i else 0
section
variable {W : Nat} {g : BitVec W}
theorem tabOf_zero : tabOf g 0 = 0 := by
  unfold tabOf regOf
  have : bl (bitsOf ((0 : Nat) : Int) 8) = List.replicate 8 false := by decide
  rw [this, fbs_zero]; rfl
theorem tabTo_one : tabTo g 1 = List.replicate 256 0 := by
  unfold tabTo
  refine List.eq_replicate_iff.2 ⟨by simp, fun x hx => ?_⟩
  obtain ⟨i, _, rfl⟩ := List.mem_map.1 hx
  split
  · have : i = 0 := by omega
    subst this; exact tabOf_zero
  · rfl
theorem tabTo_len (k : Nat) : (tabTo g k).length = 256 := by simp [tabTo]
theorem tabTo_getD (k i : Nat) (h : i < 256) : (tabTo g k).getD i 0 = if i < k then tabOf g i else 0 := by
  simp [tabTo, List.getD, h]
theorem tabTo_all : tabTo g 256 = (List.range 256).map (tabOf g) := by
  unfold tabTo
  refine List.map_congr_left fun i hi => ?_
  rw [if_pos (List.mem_range.1 hi)]
theorem tabTo_succ (k : Nat) : (tabTo g k).set k (tabOf g k) = tabTo g (k + 1) := by
  apply List.ext_getElem (by simp [tabTo])
  intro i h1 h2
  have hi : i < 256 := by simpa [tabTo] using h2
  rw [List.getElem_set]
  simp only [tabTo, List.getElem_map, List.getElem_range]
  by_cases h : k = i
  · subst h; simp
  · rw [if_neg h]
    by_cases h' : i < k
    · rw [if_pos h', if_pos (by omega)]
    · rw [if_neg h', if_neg (by omega)]
theorem cycCells_at (A B : Int) (tab : List Int) (i : Nat) (h : i < tab.length) : (cycCells A B tab)[2 + i]? = some (.int .i64 (tab.getD i 0)) := by
  unfold cycCells
  rw [List.getElem?_toArray, show 2 + i = i + 1 + 1 from by omega, List.getElem?_cons_succ, List.getElem?_cons_succ, List.getElem?_map, List.getElem?_eq_getElem h]
  simp [List.getD, List.getElem?_eq_getElem h]
theorem cycCells_set (A B : Int) (tab : List Int) (i : Nat) (x : Int) : (cycCells A B tab).setIfInBounds (2 + i) (.int .i64 x) = cycCells A B (tab.set i x) := by
  unfold cycCells
  rw [List.setIfInBounds_toArray, show 2 + i = i + 1 + 1 from by omega, List.set_cons_succ, List.set_cons_succ, map_set]
end
/-- Entry number k out of entry number k / 2. -/
theorem bits_half (k : Nat) : bl (bitsOf (k : Int) 8) = (bl (bitsOf ((k / 2 : Nat) : Int) 8)).drop 1 ++ [decide (((k : Int) % 2) = 1)] := by
  have e : (k : Int) = 2 * ((k / 2 : Nat) : Int) + (k : Int) % 2 := by omega
  have e2 : ∀ m b : Int, 0 ≤ b → b ≤ 1 → bitsOf (2 * m + b) 8 = topBits m 7 7 ++ [b] := by
    intro m b h0 h1
    unfold bitsOf
    rw [topBits_succ]
    have h1 : topBits (2 * m + b) 8 7 = topBits m 7 7 := by
      unfold topBits
      refine List.map_congr_left fun i hi => ?_
      have hi := List.mem_range.1 hi
      unfold bitAt
      rw [show 8 - 1 - i = (7 - 1 - i) + 1 from by omega, Int.pow_succ, Int.mul_comm (2 ^ (7 - 1 - i)) 2, ← Int.ediv_ediv_of_nonneg (by omega), show (2 * m + b) / 2 = m from by omega]
    rw [h1]
    congr 1
    unfold bitAt
    simp; omega
  have e3 : ∀ m : Int, (bitsOf m 8).drop 1 = topBits m 7 7 := by
    intro m
    unfold bitsOf topBits
    rw [show (List.range 8) = 0 :: (List.range 7).map (· + 1) from by decide, List.map_cons, List.drop_succ_cons, List.drop_zero, List.map_map]
    refine List.map_congr_left fun i hi => ?_
    have hi := List.mem_range.1 hi
    simp only [Function.comp]
    unfold bitAt
    rw [show 8 - 1 - (i + 1) = 7 - 1 - i from by omega]
  have e4 : bitsOf (k : Int) 8 = topBits ((k / 2 : Nat) : Int) 7 7 ++ [(k : Int) % 2] := by
    conv => lhs; rw [e]
    exact e2 _ _ (by omega) (by omega)
  rw [e4, bl_append, show bl (bitsOf ((k / 2 : Nat) : Int) 8) = (bitsOf ((k / 2 : Nat) : Int) 8).map (fun x => decide (x = 1)) from rfl, ← List.map_drop, e3]
  rfl
theorem bits_top (k : Nat) (h : k < 128) : bl (bitsOf (k : Int) 8) = false :: (bl (bitsOf (k : Int) 8)).drop 1 := by
  have hl : (bl (bitsOf (k : Int) 8)).length = 8 := by rw [bl_len, bitsOf_len]
  rcases hb : bl (bitsOf (k : Int) 8) with _ | ⟨b, bs⟩
  · rw [hb] at hl; simp at hl
  · have : b = decide (bitAt (k : Int) 8 0 = 1) := by
      have h2 := congrArg List.head? hb
      simp only [List.head?_cons] at h2
      unfold bl bitsOf topBits at h2
      rw [show (List.range 8) = 0 :: (List.range 7).map (· + 1) from by decide] at h2
      simp only [List.map_cons, List.head?_cons, Option.some.injEq] at h2
      exact h2.symm
    have hz : bitAt (k : Int) 8 0 = 0 := by unfold bitAt; omega
    rw [hz] at this
    subst this; rfl
theorem tabOf_half {W : Nat} (g : BitVec W) (k : Nat) (h : k < 256) : fbs g 0#W (bl (bitsOf (k : Int) 8)) = fb g (fbs g 0#W (bl (bitsOf ((k / 2 : Nat) : Int) 8))) (decide ((k : Int) % 2 = 1)) := by
  rw [bits_half k, fbs_snoc]
  congr 1
  conv => rhs; rw [bits_top (k / 2) (by omega)]
  show _ = fbs g (fb g 0#W false) _
  rw [fb_zero]
end

section
open Go.RowKit

section
variable {W : Nat} {g : BitVec W} {w : World} {p k : Nat}
end
theorem still_w {P : Program} {f : FuncId} {args : Array Value} {w : World} {v : Value}
    (h : Calls P f args w fun e w' => e = .returned v ∧ w = w') : Calls P f args w fun e w'' => e = .returned v ∧ w'' = w :=
  h.mono fun _ _ ⟨he, hm⟩ => ⟨he, hm.symm⟩
end

section
open Go.RowKit

def crcErr (wd p s : Int) (b : Bool) : Int := if crcCode wd p s ≠ 0 then crcCode wd p s else if b = false then 3 else 0
theorem crcErr_code {wd p s : Int} {b : Bool} (h : crcCode wd p s ≠ 0) : crcErr wd p s b = crcCode wd p s := by unfold crcErr; rw [if_pos h]
theorem crcErr_3 {wd p s : Int} (h : crcCode wd p s = 0) : crcErr wd p s false = 3 := by unfold crcErr; rw [if_neg (by simp [h]), if_pos rfl]
theorem crcErr_0 {wd p s : Int} (h : crcCode wd p s = 0) : crcErr wd p s true = 0 := by unfold crcErr; rw [if_neg (by simp [h]), if_neg (by simp)]
theorem cob_err {wd p s : Int} {xs : List Int} (h : crcErr wd p s (isBits xs) ≠ 0) : crcOfBits wd p s xs = (0, crcErr wd p s (isBits xs)) := by
  by_cases h1 : crcCode wd p s = 0
  · rcases hb : isBits xs with _ | _
    · rw [cob_3 h1 hb, crcErr_3 h1]
    · rw [hb, crcErr_0 h1] at h; exact absurd rfl h
  · rw [cob_code h1, crcErr_code h1]
theorem cob_ok {wd p s : Int} {xs : List Int} (h : crcErr wd p s (isBits xs) = 0) : crcCode wd p s = 0 ∧ isBits xs = true := by
  by_cases h1 : crcCode wd p s = 0
  · rcases hb : isBits xs with _ | _
    · rw [hb, crcErr_3 h1] at h; omega
    · exact ⟨h1, rfl⟩
  · rw [crcErr_code h1] at h; exact absurd h h1

end
end Go.Proofs.Ytggnoeeaoligdaa
