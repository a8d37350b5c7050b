/-
  A register fed with a byte and with a list of bytes by the table; CrcOfBytes on both sides.
  CrcTable on the specification's side.
  CrcTable on the program's side; AppendCrc on both sides.
  HasCrc on both sides.
  The laws' own Crc: made into the program's, compared; StandardCrc on both sides.
-/
import Derived.Test.YtggnoeeaoligdaaTwo
import Derived.Test.YtggnoeeaoligdaaReg
import Derived.Test.YtggnoeeaoligdaaOne
import Derived.Deep.RegionHeld3
import Derived.Deep.AppendLies
namespace Go.Proofs.Ytggnoeeaoligdaa
section
open Go.RowKit

theorem flat_take (xs : List Int) (k : Nat) (hk : k < xs.length) : (xs.take (k + 1)).flatMap (bitsOf · 8) = (xs.take k).flatMap (bitsOf · 8) ++ bitsOf (xs.getD k 0) 8 := by
  rw [take_succ' xs k hk, List.flatMap_append]; simp
/-- What a method leaves that only reads: a number. -/
def ReadsInt (w : World) (n : Int) (e : Ending) (w' : World) : Prop := e = .returned (.int .i64 n) ∧ Below w.heap.size w w'
theorem coy_code {wd p s : Int} {xs : List Int} (h : crcCode wd p s ≠ 0) : crcOfBytes wd p s xs = (0, crcCode wd p s) := by unfold crcOfBytes; rw [if_pos h]
theorem coy_3 {wd p s : Int} {xs : List Int} (h : crcCode wd p s = 0) (hb : isBytes xs = false) : crcOfBytes wd p s xs = (0, 3) := by unfold crcOfBytes; rw [if_neg (by simp [h]), if_pos hb]
theorem coy_0 {wd p s : Int} {xs : List Int} (h : crcCode wd p s = 0) (hb : isBytes xs = true) : crcOfBytes wd p s xs = (crcRaw wd p s (xs.flatMap (bitsOf · 8)), 0) := by unfold crcOfBytes; rw [if_neg (by simp [h]), if_neg (by simp [hb])]
theorem coy_err {wd p s : Int} {xs : List Int} (h : crcErr wd p s (isBytes xs) ≠ 0) : crcOfBytes wd p s xs = (0, crcErr wd p s (isBytes xs)) := by
  by_cases h1 : crcCode wd p s = 0
  · rcases hb : isBytes xs with _ | _
    · rw [coy_3 h1 hb, crcErr_3 h1]
    · rw [hb, crcErr_0 h1] at h; exact absurd rfl h
  · rw [coy_code h1, crcErr_code h1]
theorem crcErr_ok {wd p s : Int} {b : Bool} (h : crcErr wd p s b = 0) : crcCode wd p s = 0 ∧ b = true := by
  by_cases h1 : crcCode wd p s = 0
  · cases b
    · rw [crcErr_3 h1] at h; omega
    · exact ⟨h1, rfl⟩
  · rw [crcErr_code h1] at h; exact absurd h h1
theorem flat_bits (xs : List Int) : ∀ x ∈ xs.flatMap (bitsOf · 8), 0 ≤ x ∧ x ≤ 1 := by
  intro x hx
  obtain ⟨y, _, hy⟩ := List.mem_flatMap.1 hx
  exact bitsOf_bits y 8 x hy

end

section
open Go.RowKit

/-- 'append(out, x)' of one number, at a step of a region that draws its order. -/
theorem step_append_one {P : Program} {E T : Nat} {w : World} {ops : Array Oper} {o : Oper} {a : Act} {K : Act → World → Prop} {Q : Exit → Act → World → Prop} {E' : Prop} (hgd : o.guard = none) (s x : Operand)
    (ho : o.op = .call { callee := .builtin .append, args := #[s, x], argTypes := #[T, T] })
    (base : Nat) (ht : P.underlying T = some (.slice E)) (hi : Info64 P E)
    (v : Value) (xs : List Int) (hs : a.eval s = v) (hown : Own E w base v xs) (b : Nat) (y : Int) (c : Nat) (hx : a.eval x = .slice (some ⟨b, 0, none⟩) 1 c) (hc : w.cell? ⟨b, 0, none⟩ = some (.int .i64 y))
    (hlen : xs.length ≤ 4294967296) (hbase : base ≤ w.heap.size)
    (h : ∀ v' w', Own E w' base v' (xs ++ [y]) → Below base w w' → K (a.put o.dst v') w') : if Region.wanted o (yielded ops a.tmps) = true then Oper.wp P o a w K Q else E' := by
  obtain ⟨i0, hi, hz0, hz1, hz2⟩ := info_parts hi
  refine step_append_lies w hgd s x T ho base E i0 (.int .i64 0) 1 8 ht hi hz0 hz1 hz2 rfl (by decide) v xs.length _ hs hown ⟨b, 0, none⟩ 1 c [.int .i64 y] hx rfl ?_ ?_ (by decide) (by unfold maxLen; omega) (by omega) hbase w.heap.size rfl ?_
  · intro j u hj
    match j, hj with
    | 0, hj => simp at hj; subst hj; simpa [Addr.add] using hc
  · intro u hu; simp at hu; subst hu; rfl
  · intro g cap w' h1 h2 _ _
    refine h _ w' ?_ ((Below.refl _ _).grown h2 hbase fun k hk => (hown.block k hk).1)
    unfold Own
    simpa using h1
/-- A slice of one number in a block of its own. -/
theorem rd_oneC {w : World} {b : Nat} {x : Int} (hc : w.cell? ⟨b, 0, none⟩ = some (.int .i64 x)) : Rd w (some ⟨b, 0, none⟩) 1 [x] :=
  ⟨rfl, fun _ => ⟨b, 0, rfl, fun i hi => by
    have : i = 0 := by omega
    subst this; exact hc⟩⟩
theorem range_tab_succ {W : Nat} (g : BitVec W) (k : Nat) : (List.range (k + 1)).map (tabOf g) = (List.range k).map (tabOf g) ++ [tabOf g k] := by
  rw [List.range_succ, List.map_append]; rfl
theorem ct_1 {wd p : Int} (h : isCrc wd p = false) : crcTable wd p = ([], 1) := by unfold crcTable; rw [if_pos h]
theorem ct_0 {wd p : Int} (h : isCrc wd p = true) : crcTable wd p = (crcTab wd p 256, 0) := by unfold crcTable; rw [if_neg (by simp [h])]
end

section
open Go.RowKit

theorem ac_err {wd p s : Int} {xs : List Int} (h : (crcOfBits wd p s xs).2 ≠ 0) : appendCrc wd p s xs = ([], (crcOfBits wd p s xs).2) := by unfold appendCrc; rw [if_pos h]
theorem ac_3 {wd p s : Int} {xs : List Int} (h : (crcOfBits wd p s xs).2 = 0) (h2 : 8192 < (xs.length : Int) + wd) : appendCrc wd p s xs = ([], 3) := by unfold appendCrc; rw [if_neg (by simp [h]), if_pos h2]
theorem ac_0 {wd p s : Int} {xs : List Int} (h : (crcOfBits wd p s xs).2 = 0) (h2 : ¬ 8192 < (xs.length : Int) + wd) : appendCrc wd p s xs = (xs ++ bitsOf (crcOfBits wd p s xs).1 wd.toNat, 0) := by unfold appendCrc; rw [if_neg (by simp [h]), if_neg h2]
/-- A check number without an error: the code, the seed and the list are valid. -/
theorem cob_get {wd p s : Int} {xs : List Int} (h : (crcOfBits wd p s xs).2 = 0) : ∃ (W : Nat) (g r : BitVec W), wd = (W : Int) ∧ 3 ≤ W ∧ W ≤ 24 ∧ p = (g.toNat : Int) ∧ g.getLsbD 0 = true ∧ s = (r.toNat : Int) ∧ isBits xs = true ∧ (crcOfBits wd p s xs).1 = regOf g r xs := by
  by_cases hc : crcCode wd p s = 0
  · rcases hb : isBits xs with _ | _
    · rw [cob_3 hc hb] at h; simp at h
    · have e := cob_0 hc hb
      obtain ⟨W, g, r, rfl, h1, h2, rfl, h3, rfl⟩ := crcCode_zero hc
      exact ⟨W, g, r, rfl, h1, h2, rfl, h3, rfl, rfl, by rw [e, crcRaw_eq]⟩
  · rw [cob_code hc] at h; exact absurd h hc
theorem appendCrc_len (wd p s : Int) (xs : List Int) : (appendCrc wd p s xs).1.length ≤ 8192 := by
  by_cases h : (crcOfBits wd p s xs).2 = 0
  · by_cases h2 : 8192 < (xs.length : Int) + wd
    · rw [ac_3 h h2]; simp
    · obtain ⟨W, g, r, rfl, h1, -⟩ := cob_get h
      rw [ac_0 h h2]
      simp only [List.length_append, bitsOf_len, Int.toNat_natCast]; omega
  · rw [ac_err h]; simp

end

section
open Go.RowKit

theorem hc_code {wd p s : Int} {xs : List Int} (h : crcCode wd p s ≠ 0) : hasCrc wd p s xs = false := by unfold hasCrc; rw [decide_eq_false h]; rfl
theorem hc_bits {wd p s : Int} {xs : List Int} (h : isBits xs = false) : hasCrc wd p s xs = false := by unfold hasCrc; rw [h]; simp
theorem hc_short {wd p s : Int} {xs : List Int} (h : ¬ wd ≤ (xs.length : Int)) : hasCrc wd p s xs = false := by unfold hasCrc; rw [decide_eq_false h]; simp
theorem hc_raw {wd p s : Int} {xs : List Int} (h : crcCode wd p s = 0) (hb : isBits xs = true) (hl : wd ≤ (xs.length : Int)) : hasCrc wd p s xs = decide (crcRaw wd p s xs = 0) := by
  unfold hasCrc; rw [decide_eq_true h, hb, decide_eq_true hl]; simp
theorem hc_err {wd p s : Int} {xs : List Int} (h : crcErr wd p s (isBits xs) ≠ 0) : hasCrc wd p s xs = false := by
  by_cases h1 : crcCode wd p s = 0
  · rcases hb : isBits xs with _ | _
    · exact hc_bits hb
    · rw [hb, crcErr_0 h1] at h; exact absurd rfl h
  · exact hc_code h1
theorem reg_split {W : Nat} (g r : BitVec W) (hg : g.getLsbD 0 = true) (xs : List Int) (m : Nat) (hl : xs.length = m + W) (hb : ∀ x ∈ xs, 0 ≤ x ∧ x ≤ 1) : (regOf g r (xs.take m) == numOf (xs.drop m)) = decide (regOf g r xs = 0) := by
  have h := fbs_zero_iff (r := fbs g r (bl (xs.take m))) hg (xs.drop m) (by rw [List.length_drop]; omega) (fun x hx => hb x (List.mem_of_mem_drop hx))
  rw [← fbs_append, ← bl_append, List.take_append_drop] at h
  rw [beq_dec, decide_eq_decide]
  unfold regOf
  rw [← h]
  constructor
  · intro h; rw [h]; simp
  · intro h
    apply BitVec.eq_of_toNat_eq
    rw [show (0#W).toNat = 0 from by simp]; omega

end

section
open Go.RowKit

/-- A struct that the call laid at its start reads as it was. -/
theorem crc_kept {w w' : World} {wd p : Int} {T : Nat} (h : Below (w.alloc (.cells #[.int .i64 wd, .int .i64 p] T)).heap.size (w.alloc (.cells #[.int .i64 wd, .int .i64 p] T)) w') :
    w'.cell? ⟨w.heap.size, 0, none⟩ = some (.int .i64 wd) ∧ w'.cell? ⟨w.heap.size, 1, none⟩ = some (.int .i64 p) :=
  ⟨(h.cell (p := ⟨w.heap.size, 0, none⟩) (by simp)).trans (struct_cells wd p T).1, (h.cell (p := ⟨w.heap.size, 1, none⟩) (by simp)).trans (struct_cells wd p T).2⟩
theorem crcTable_len (wd p : Int) : (crcTable wd p).1.length ≤ 8192 := by
  rcases h : isCrc wd p with _ | _
  · rw [ct_1 h]; simp
  · rw [ct_0 h]; unfold crcTab; rw [List.length_map, List.length_range]; omega
/-- A struct of two numbers handed back. -/
def GivesCrc (w : World) (wd p : Int) (e : Ending) (w' : World) : Prop := e = .returned (.agg #[.int .i64 wd, .int .i64 p]) ∧ Below w.heap.size w w'
end
end Go.Proofs.Ytggnoeeaoligdaa
