/-
  The plain functions of chapter 3, and what its laws say of them. No program is named here.
  How the program finds the first missed error: repeats of syndromes, and three ones whose syndromes cancel. No program is named here.
  math/bits.OnesCount64 for a number of at most 24 bits: its steps, and the weight of the number's bits. No program is named here.
  A map from numbers to numbers that a call makes: it holds the graph of a plain function. No program is named here.
-/
import Derived.Test.YtdcalkobcdeclaaReg
import Derived.Test.YtdcalkobcdeclaaTwo
import Derived.Test.YtdcalkobcdeclaaLawC
import Derived.Lib.BitFns
import Derived.Test.YtdcalkobcdeclaaBase
import Derived.Maps.OwnSet
import Derived.Carry
namespace Go.Proofs.Ytdcalkobcdeclaa
section

def isMissed (wd p : Int) (xs : List Int) : Bool := isCrc wd p && isBits xs && decide (0 < weight xs) && decide (crcRaw wd p 0 xs = 0)
def orderOf (wd p : Int) : Int × Int :=
  if isCrc wd p = false then (0, 1) else if order (BitVec.ofNat wd.toNat p.toNat) ≤ 5000 then ((order (BitVec.ofNat wd.toNat p.toNat) : Int), 0) else (0, 3)
def spanCode (wd p span : Int) : Int := if isCrc wd p = false then 1 else if ¬ (1 ≤ span ∧ span ≤ 64) then 2 else 0
def leastOf (wd p span : Int) : Int × Int :=
  if spanCode wd p span ≠ 0 then (0, spanCode wd p span) else ((leastWeight (BitVec.ofNat wd.toNat p.toNat) span.toNat : Int), 0)
def firstOf (wd p span : Int) : List Int × Int :=
  if spanCode wd p span ≠ 0 then ([], spanCode wd p span) else if firstMissed (BitVec.ofNat wd.toNat p.toNat) span.toNat = [] then ([], 4) else (firstMissed (BitVec.ofNat wd.toNat p.toNat) span.toNat, 0)
def burstOf (xs : List Int) : Int × Int × Int :=
  if isBits xs = false then (0, 0, 1) else if (burst xs).2 = 0 then (0, 0, 4) else ((burst xs).1, (burst xs).2, 0)
/-- One of the reasons for which an error is found (the order taken for 5001 where it is greater than 5000). -/
def reason (wd p : Int) (xs : List Int) : Bool :=
  (decide (weight xs % 2 = 1) && decide (weight (bitsOf p wd.toNat) % 2 = 1)) || decide (((burst xs).2 : Int) ≤ wd) || (decide (weight xs = 2) && decide (((burst xs).2 : Int) - 1 < (order (BitVec.ofNat wd.toNat p.toNat) : Int)))
def isFound (wd p : Int) (xs : List Int) : Bool × Int :=
  if isCrc wd p = false then (false, 1) else if isBits xs = false ∨ weight xs = 0 then (false, 3) else (reason wd p xs, 0)
def sumErrors (xs ys : List Int) : List Int × Int :=
  if isBits xs = false ∨ isBits ys = false then ([], 1) else if xs.length ≠ ys.length then ([], 5) else (xorL xs ys, 0)

theorem crcRaw_zero {W : Nat} (g : BitVec W) (xs : List Int) : crcRaw (W : Int) (g.toNat : Int) 0 xs = regOf g 0#W xs := by
  have h := crcRaw_eq g (0#W) xs
  rwa [show (((0#W).toNat : Nat) : Int) = 0 from by simp] at h
theorem regOf_zero {W : Nat} (g : BitVec W) (xs : List Int) : regOf g 0#W xs = 0 ↔ fbs g 0#W (bl xs) = 0#W := by
  unfold regOf
  constructor
  · intro h
    apply BitVec.eq_of_toNat_eq
    rw [show (0#W).toNat = 0 from by simp]; omega
  · intro h; rw [h]; simp
/-- An error that is found for one of the reasons is not missed. -/
theorem found_round {wd p : Int} {xs : List Int} (h : isFound wd p xs = (true, 0)) : isMissed wd p xs = false := by
  unfold isFound at h
  split at h
  · cases h
  · rename_i hc
    split at h
    · cases h
    · rename_i hw
      have hc : isCrc wd p = true := by simpa using hc
      obtain ⟨hb, hw⟩ := not_or.1 hw
      have hb : isBits xs = true := by simpa using hb
      have hr : reason wd p xs = true := congrArg Prod.fst h
      obtain ⟨W, g, rfl, h1, h2, rfl, hg⟩ := isCrc_get hc
      have hbits := (isBits_iff.1 hb).2
      have hwb := weight_bound xs hbits
      have ho : 1 ≤ order g := (ord_le 5000 1).1
      unfold reason at hr
      rw [Int.toNat_natCast, Int.toNat_natCast, show BitVec.ofNat W g.toNat = g from by simp] at hr
      simp only [Bool.or_eq_true, Bool.and_eq_true, decide_eq_true_eq] at hr
      have hs := found_synd hg hbits (by omega) (by
        rcases hr with (hr | hr) | hr
        · exact .inl hr
        · exact .inr (.inl (by omega))
        · exact .inr (.inr ⟨hr.1, by omega⟩))
      unfold isMissed
      rw [crcRaw_zero, show decide (regOf g 0#W xs = 0) = false from decide_eq_false fun h => hs ((regOf_zero g xs).1 h)]
      simp
theorem zeros_bits (n : Nat) : ∀ x ∈ List.replicate n (0 : Int), 0 ≤ x ∧ x ≤ 1 := fun x hx => by rw [List.eq_of_mem_replicate hx]; omega
theorem flip1_bits {xs : List Int} (h : ∀ x ∈ xs, 0 ≤ x ∧ x ≤ 1) (i : Nat) : ∀ x ∈ xs.set i (1 - xs.getD i 0), 0 ≤ x ∧ x ≤ 1 := by
  have := flips_bits xs [(i : Int)] h
  simpa [flips] using this
theorem weight_pos {xs : List Int} (hb : ∀ x ∈ xs, 0 ≤ x ∧ x ≤ 1) (i : Nat) (hi : xs.getD i 0 = 1) : 0 < weight xs := by
  have h := weight_bound xs hb
  rcases Int.lt_or_eq_of_le h.1 with h1 | h1
  · exact h1
  · have e := weight_zero hb h1.symm
    rw [e] at hi
    by_cases hl : i < xs.length
    · simp [List.getD, hl] at hi
    · rw [← e, getD_out (by omega)] at hi; omega
theorem set_getD (xs : List Int) (i : Nat) (x : Int) (j : Nat) : (xs.set i x).getD j 0 = if i = j ∧ j < xs.length then x else xs.getD j 0 := by
  simp only [List.getD, List.getElem?_set]
  by_cases h : i = j
  · subst h
    by_cases hl : i < xs.length
    · simp [hl]
    · simp [hl]
  · simp [h]
/-- The first missed error, as a list of errors, is missed. -/
theorem first_round {W : Nat} {g : BitVec W} (hg : g.getLsbD 0 = true) {span : Nat} (hs : span ≤ 64) (hne : firstMissed g span ≠ []) :
    ∃ xs, flipBits (List.replicate span 0) (firstMissed g span) = (xs, 0) ∧ isBits xs = true ∧ 0 < weight xs ∧ fbs g 0#W (bl xs) = 0#W := by
  have hz := zeros_bits span
  have hzl : (List.replicate span (0 : Int)).length = span := List.length_replicate
  have hzb : isBits (List.replicate span (0 : Int)) = true := isBits_iff.2 ⟨by omega, hz⟩
  have hz0 : fbs g 0#W (bl (List.replicate span 0)) = 0#W := by rw [bl_zeros, fbs_zero]
  have hzg : ∀ j, (List.replicate span (0 : Int)).getD j 0 = 0 := fun j => by
    by_cases h : j < span
    · simp [List.getD, h]
    · exact getD_out (by omega)
  rcases firstMissed_cases hg span with ⟨i, k, h1, h2, h3, h4⟩ | ⟨-, i, k, j, h1, h2, h3, h4, h5⟩ | ⟨-, -, h⟩
  · rw [h3]
    have a1 := synd_flip (g := g) span i _ hzl hz (by omega)
    have l1 : ((List.replicate span (0 : Int)).set i (1 - (List.replicate span (0 : Int)).getD i 0)).length = span := by rw [List.length_set, hzl]
    have b1 := flip1_bits hz i
    have a2 := synd_flip (g := g) span k _ l1 b1 h2
    have b2 := flip1_bits b1 k
    refine ⟨_, fb_0 hzb (rises_iff.2 fun m hm => ?_), ?_, ?_, ?_⟩
    · rw [hzl]
      match m, hm with
      | 0, _ => exact ⟨by rw [prev_zero]; simp; omega, by simp; omega⟩
      | 1, _ => exact ⟨by rw [prev_succ]; simp; omega, by simp; omega⟩
    · exact isBits_iff.2 ⟨by rw [flips_len, hzl]; omega, flips_bits _ _ hz⟩
    · refine weight_pos (flips_bits _ _ hz) i ?_
      show (((List.replicate span (0 : Int)).set i (1 - (List.replicate span (0 : Int)).getD i 0)).set k (1 - _)).getD i 0 = 1
      rw [set_getD, if_neg (by omega), set_getD, if_pos ⟨rfl, by omega⟩, hzg]; rfl
    · rw [a1, hz0, BitVec.zero_xor, h4, BitVec.xor_self] at a2
      exact a2
  · rw [h4]
    have a1 := synd_flip (g := g) span i _ hzl hz (by omega)
    have l1 : ((List.replicate span (0 : Int)).set i (1 - (List.replicate span (0 : Int)).getD i 0)).length = span := by rw [List.length_set, hzl]
    have b1 := flip1_bits hz i
    have a2 := synd_flip (g := g) span k _ l1 b1 (by omega)
    have b2 := flip1_bits b1 k
    have l2 : (((List.replicate span (0 : Int)).set i (1 - (List.replicate span (0 : Int)).getD i 0)).set k (1 - ((List.replicate span (0 : Int)).set i (1 - (List.replicate span (0 : Int)).getD i 0)).getD k 0)).length = span := by rw [List.length_set, l1]
    have a3 := synd_flip (g := g) span j _ l2 b2 h3
    refine ⟨_, fb_0 hzb (rises_iff.2 fun m hm => ?_), ?_, ?_, ?_⟩
    · rw [hzl]
      match m, hm with
      | 0, _ => exact ⟨by rw [prev_zero]; simp; omega, by simp; omega⟩
      | 1, _ => exact ⟨by rw [prev_succ]; simp; omega, by simp; omega⟩
      | 2, _ => exact ⟨by rw [prev_succ]; simp; omega, by simp; omega⟩
    · exact isBits_iff.2 ⟨by rw [flips_len, hzl]; omega, flips_bits _ _ hz⟩
    · refine weight_pos (flips_bits _ _ hz) i ?_
      show ((((List.replicate span (0 : Int)).set i (1 - (List.replicate span (0 : Int)).getD i 0)).set k (1 - _)).set j (1 - _)).getD i 0 = 1
      rw [set_getD, if_neg (by omega), set_getD, if_neg (by omega), set_getD, if_pos ⟨rfl, by omega⟩, hzg]; rfl
    · rw [a2, a1, hz0, BitVec.zero_xor, h5, BitVec.xor_self] at a3
      exact a3
  · exact absurd h hne
/-- Two ones at a distance n, as the laws lay them. -/
theorem pair_list (n : Nat) : ((List.replicate (n + 2) (0 : Int)).set 0 1).set (n + 1) 1 = [1] ++ List.replicate n 0 ++ [1] := by
  rw [show n + 2 = (n + 1) + 1 from rfl, List.replicate_succ, List.set_cons_zero, List.set_cons_succ, List.replicate_succ', List.set_append_right _ _ (by simp)]
  simp
theorem pair_isMissed {W : Nat} {g : BitVec W} (h1 : 3 ≤ W) (h2 : W ≤ 24) (hg : g.getLsbD 0 = true) (n : Nat) (hn : n + 2 ≤ 8192) : isMissed (W : Int) (g.toNat : Int) ([1] ++ List.replicate n 0 ++ [1]) = decide (tail g (n + 1) = g) := by
  have hb : ∀ x ∈ [1] ++ List.replicate n (0 : Int) ++ [1], 0 ≤ x ∧ x ≤ 1 := by
    intro x hx
    simp only [List.mem_append, List.mem_singleton] at hx
    rcases hx with (hx | hx) | hx
    · omega
    · rw [List.eq_of_mem_replicate hx]; omega
    · omega
  have hbt : isBits ([1] ++ List.replicate n (0 : Int) ++ [1]) = true := isBits_iff.2 ⟨by simp; omega, hb⟩
  have hw : 0 < weight ([1] ++ List.replicate n (0 : Int) ++ [1]) := weight_pos hb 0 rfl
  unfold isMissed
  rw [isCrc_put h1 h2 hg, hbt, decide_eq_true hw, crcRaw_zero]
  simp only [Bool.and_self, Bool.true_and]
  rw [decide_eq_decide, regOf_zero, pair_missed]
theorem xorL_back : ∀ (xs ys : List Int), xs.length = ys.length → (∀ x ∈ xs, 0 ≤ x ∧ x ≤ 1) → (∀ y ∈ ys, 0 ≤ y ∧ y ≤ 1) → xorL (xorL xs ys) ys = xs
  | [], [], _, _, _ => rfl
  | x :: xs, y :: ys, h, hx, hy => by
    have ih := xorL_back xs ys (by simpa using h) (fun a ha => hx a (by simp [ha])) (fun a ha => hy a (by simp [ha]))
    have hx1 := hx x (by simp)
    have hy1 := hy y (by simp)
    show bits .xor .i64 (bits .xor .i64 x y) y :: xorL (xorL xs ys) ys = x :: xs
    rw [ih]
    congr 1
    have c1 : x = 0 ∨ x = 1 := by omega
    have c2 : y = 0 ∨ y = 1 := by omega
    rcases c1 with rfl | rfl <;> rcases c2 with rfl | rfl <;> decide
  | [], _ :: _, h, _, _ => by simp at h
  | _ :: _, [], h, _, _ => by simp at h
/-- The sum of two error lists is the first list when it is added to the second one. -/
theorem sum_round {xs ys s : List Int} (h : sumErrors xs ys = (s, 0)) : sumErrors s ys = (xs, 0) := by
  unfold sumErrors at h
  split at h
  · cases h
  · split at h
    · cases h
    · rename_i h1 h2
      obtain ⟨ha, hb⟩ := not_or.1 h1
      have ha : isBits xs = true := by simpa using ha
      have hb : isBits ys = true := by simpa using hb
      have hl : xs.length = ys.length := by simpa using h2
      simp only [Prod.mk.injEq, and_true] at h
      subst h
      have hxb := (isBits_iff.1 ha)
      have hyb := (isBits_iff.1 hb)
      have hln := xorL_len xs ys hl
      have hs : isBits (xorL xs ys) = true := isBits_iff.2 ⟨by omega, (xorL_bl xs ys hl hxb.2 hyb.2).2⟩
      unfold sumErrors
      rw [if_neg (by simp [hs, hb]), if_neg (by omega), xorL_back xs ys hl hxb.2 hyb.2]
theorem burst_weight (xs : List Int) (h : 0 < (burst xs).2) : weight xs = weight ((xs.drop (burst xs).1).take (burst xs).2) := by
  obtain ⟨-, hp⟩ := burst_parts xs h
  have := congrArg weight hp
  rw [weight_append, weight_append, weight_zeros, weight_zeros] at this
  omega
end

section

section
variable {W : Nat} {g : BitVec W}
theorem tail_add (n m : Nat) : tail g (n + m) = fbs g (tail g n) (List.replicate m false) := by
  unfold tail
  rw [← List.replicate_append_replicate, fbs_append]
theorem tail_down (hg : g.getLsbD 0 = true) {d a : Nat} (h : tail g (d + a) = tail g a) : tail g d = g := by
  have h1 := tail_add (g := g) d a
  have h2 := tail_add (g := g) 0 a
  rw [Nat.zero_add] at h2
  rw [h1, h2] at h
  exact fbs_inj hg _ h
theorem tail_up {d : Nat} (h : tail g d = g) (m : Nat) : tail g (d + m) = tail g m := by
  rw [tail_add, h]; rfl
/-- No two of the first k syndromes are equal. -/
def Apart (g : BitVec W) (span k : Nat) : Prop := ∀ i j, i < j → j < k → synd g span i ≠ synd g span j
theorem apart_zero (span : Nat) : Apart g span 0 := fun i j _ h => absurd h (by omega)
theorem apart_succ {span k : Nat} (h : Apart g span k) (hk : ∀ i, i < k → synd g span i ≠ synd g span k) : Apart g span (k + 1) := fun i j h1 h2 => by
  by_cases e : j = k
  · rw [e]; exact hk i (by omega)
  · exact h i j h1 (by omega)
/-- The first repeat repeats that of the index 0, and is the first pair. -/
theorem repeat_first (hg : g.getLsbD 0 = true) {span i k : Nat} (hk : k < span) (hi : i < k) (ha : Apart g span k) (h : synd g span i = synd g span k) : find2 g span = some [(i : Int), (k : Int)] := by
  have hi0 : i = 0 := by
    refine Classical.byContradiction fun hne => ?_
    have h1 : synd g span 0 = synd g span (k - i) := by
      have hd : tail g (k - i) = g := by
        unfold synd at h
        rw [show span - 1 - i = (k - i) + (span - 1 - k) from by omega] at h
        exact tail_down hg h
      unfold synd
      rw [show span - 1 - 0 = (k - i) + (span - 1 - (k - i)) from by omega]
      exact tail_up hd _
    exact ha 0 (k - i) (by omega) (by omega) h1
  subst hi0
  unfold find2
  rw [first_some]
  refine ⟨0, Nat.le_refl _, by omega, ?_, fun j _ h => absurd h (by omega)⟩
  unfold find2At
  rw [first_some]
  refine ⟨k, by omega, by omega, by rw [if_pos h], fun j h1 h2 => ?_⟩
  rw [if_neg (ha 0 j (by omega) h2)]
theorem repeat_none {span : Nat} (ha : Apart g span span) : find2 g span = none := by
  unfold find2
  rw [first_none]
  intro i _ hi
  unfold find2At
  rw [first_none]
  intro k h1 h2
  rw [if_neg (ha i k (by omega) (by omega))]
/-- Up to the pair i, k (k excluded) no three ones are missed. -/
def NoThree (g : BitVec W) (span i k : Nat) : Prop := ∀ a b c, a < b → b < c → c < span → (a < i ∨ a = i ∧ b < k) → synd g span a ^^^ synd g span b ≠ synd g span c
theorem noThree_zero (span : Nat) : NoThree g span 0 1 := fun a b c h1 _ _ h => by omega
theorem noThree_succ {span i k : Nat} (h : NoThree g span i k) (hk : ∀ c, k < c → c < span → synd g span i ^^^ synd g span k ≠ synd g span c) : NoThree g span i (k + 1) := fun a b c h1 h2 h3 h4 => by
  by_cases e : a = i ∧ b = k
  · rw [e.1, e.2]; exact hk c (by omega) h3
  · exact h a b c h1 h2 h3 (by omega)
theorem noThree_row {span i : Nat} (h : NoThree g span i span) : NoThree g span (i + 1) (i + 1 + 1) := fun a b c h1 h2 h3 h4 => h a b c h1 h2 h3 (by omega)
theorem three_none {span : Nat} (h : NoThree g span span (span + 1)) : find3 g span = none := by
  unfold find3
  rw [first_none]
  intro i _ hi
  unfold find3At
  rw [first_none]
  intro k h1 h2
  unfold find3Of
  rw [first_none]
  intro j h3 h4
  rw [if_neg (h i k j (by omega) (by omega) (by omega) (.inl (by omega)))]
theorem three_some {span i k j : Nat} (h1 : i < k) (h2 : k < j) (h3 : j < span) (h : NoThree g span i k) (hj : ∀ c, k < c → c < j → synd g span i ^^^ synd g span k ≠ synd g span c) (he : synd g span i ^^^ synd g span k = synd g span j) :
    find3 g span = some [(i : Int), (k : Int), (j : Int)] := by
  unfold find3
  rw [first_some]
  refine ⟨i, Nat.zero_le _, by omega, ?_, fun a _ ha => ?_⟩
  · unfold find3At
    rw [first_some]
    refine ⟨k, by omega, by omega, ?_, fun b hb1 hb2 => ?_⟩
    · unfold find3Of
      rw [first_some]
      exact ⟨j, by omega, by omega, by rw [if_pos he], fun c hc1 hc2 => by rw [if_neg (hj c (by omega) hc2)]⟩
    · unfold find3Of
      rw [first_none]
      intro c hc1 hc2
      rw [if_neg (h i b c (by omega) (by omega) (by omega) (.inr ⟨rfl, hb2⟩))]
  · unfold find3At
    rw [first_none]
    intro b hb1 hb2
    unfold find3Of
    rw [first_none]
    intro c hc1 hc2
    rw [if_neg (h a b c (by omega) (by omega) (by omega) (.inl ha))]
/-- Up to the pair i, k (k excluded) no two ones are missed. -/
def NoPair (g : BitVec W) (span i k : Nat) : Prop := ∀ a b, a < b → b < span → (a < i ∨ a = i ∧ b < k) → synd g span a ≠ synd g span b
theorem noPair_zero (span : Nat) : NoPair g span 0 1 := fun a b h1 _ h => by omega
theorem noPair_succ {span i k : Nat} (h : NoPair g span i k) (hk : synd g span i ≠ synd g span k) : NoPair g span i (k + 1) := fun a b h1 h2 h3 => by
  by_cases e : a = i ∧ b = k
  · rw [e.1, e.2]; exact hk
  · exact h a b h1 h2 (by omega)
theorem noPair_row {span i : Nat} (h : NoPair g span i span) : NoPair g span (i + 1) (i + 1 + 1) := fun a b h1 h2 h3 => h a b h1 h2 (by omega)
theorem pair_none {span : Nat} (h : NoPair g span span (span + 1)) : find2 g span = none := by
  unfold find2
  rw [first_none]
  intro i _ hi
  unfold find2At
  rw [first_none]
  intro k h1 h2
  rw [if_neg (h i k (by omega) (by omega) (.inl (by omega)))]
theorem pair_some {span i k : Nat} (h1 : i < k) (h2 : k < span) (h : NoPair g span i k) (he : synd g span i = synd g span k) : find2 g span = some [(i : Int), (k : Int)] := by
  unfold find2
  rw [first_some]
  refine ⟨i, Nat.zero_le _, by omega, ?_, fun a _ ha => ?_⟩
  · unfold find2At
    rw [first_some]
    exact ⟨k, by omega, by omega, by rw [if_pos he], fun b hb1 hb2 => by rw [if_neg (h i b (by omega) (by omega) (.inr ⟨rfl, hb2⟩))]⟩
  · unfold find2At
    rw [first_none]
    intro b hb1 hb2
    rw [if_neg (h a b (by omega) (by omega) (.inl ha))]
theorem first_pair (hg : g.getLsbD 0 = true) {span : Nat} {l : List Int} (h : find2 g span = some l) : firstMissed g span = l := by
  unfold firstMissed; rw [find1_none hg, h]
theorem first_three (hg : g.getLsbD 0 = true) {span : Nat} {l : List Int} (h2 : find2 g span = none) (h : find3 g span = some l) : firstMissed g span = l := by
  unfold firstMissed; rw [find1_none hg, h2, h]
theorem first_nil (hg : g.getLsbD 0 = true) {span : Nat} (h2 : find2 g span = none) (h : find3 g span = none) : firstMissed g span = [] := by
  unfold firstMissed; rw [find1_none hg, h2, h]
theorem firstIn_snoc {α : Type} (p : Nat → Option α) : ∀ (n a : Nat), firstIn p a (n + 1) = match firstIn p a n with | some x => some x | none => p (a + n)
  | 0, a => by
    unfold firstIn
    simp only [Nat.add_zero]
    rcases p a with _ | x
    · rfl
    · rfl
  | n + 1, a => by
    rw [show firstIn p a (n + 1 + 1) = (match p a with | some x => some x | none => firstIn p (a + 1) (n + 1)) from rfl, firstIn_snoc p n (a + 1)]
    rw [show firstIn p a (n + 1) = (match p a with | some x => some x | none => firstIn p (a + 1) n) from rfl]
    rw [show a + 1 + n = a + (n + 1) from by omega]
    rcases p a with _ | x
    · rfl
    · rfl
/-- The index below k at which a syndrome stands. -/
def idxOf (g : BitVec W) (span k : Nat) (x : Int) : Option Int := firstIn (fun i => if ((synd g span i).toNat : Int) = x then some (i : Int) else none) 0 k
theorem idx_zero (span : Nat) : (fun _ => none) = idxOf g span 0 := rfl
theorem idx_none {span k : Nat} {x : Int} (h : idxOf g span k x = none) (i : Nat) (hi : i < k) : ((synd g span i).toNat : Int) ≠ x := by
  have := first_none.1 h i (Nat.zero_le _) (by omega)
  intro e
  rw [if_pos e] at this; cases this
theorem idx_some {span k : Nat} {x y : Int} (h : idxOf g span k x = some y) : ∃ l : Nat, l < k ∧ y = l ∧ ((synd g span l).toNat : Int) = x := by
  obtain ⟨l, -, hl, hp, -⟩ := first_some.1 h
  by_cases e : ((synd g span l).toNat : Int) = x
  · rw [if_pos e] at hp
    exact ⟨l, by omega, (Option.some.inj hp).symm, e⟩
  · rw [if_neg e] at hp; cases hp
theorem idx_succ {span k : Nat} (h : idxOf g span k ((synd g span k).toNat : Int) = none) : (fun z => if z = ((synd g span k).toNat : Int) then some (k : Int) else idxOf g span k z) = idxOf g span (k + 1) := by
  funext z
  have hs : idxOf g span (k + 1) z = (match idxOf g span k z with | some x => some x | none => if ((synd g span k).toNat : Int) = z then some (k : Int) else none) := by
    unfold idxOf
    rw [firstIn_snoc, Nat.zero_add]
    generalize firstIn (fun i => if ((synd g span i).toNat : Int) = z then some (i : Int) else none) 0 k = r
    cases r <;> rfl
  rw [hs]
  by_cases e : z = ((synd g span k).toNat : Int)
  · rw [if_pos e, e, h]; simp
  · rw [if_neg e, if_neg (fun h => e h.symm)]
    rcases idxOf g span k z with _ | y <;> rfl
theorem nat_eq {x y : BitVec W} (h : (x.toNat : Int) = (y.toNat : Int)) : x = y := BitVec.eq_of_toNat_eq (by omega)
theorem apart_of_idx {span k : Nat} (ha : Apart g span k) (h : idxOf g span k ((synd g span k).toNat : Int) = none) : Apart g span (k + 1) :=
  apart_succ ha fun i hi e => idx_none h i hi (by rw [e])
/-- No third one behind the pair: none stands there, or it stands ahead. -/
theorem no_third {span i k : Nat} (ha : Apart g span span) (h : ∀ y, idxOf g span span ((synd g span i ^^^ synd g span k).toNat : Int) = some y → y ≤ (k : Int)) : ∀ c, k < c → c < span → synd g span i ^^^ synd g span k ≠ synd g span c := by
  intro c h1 h2 e
  rcases hx : idxOf g span span ((synd g span i ^^^ synd g span k).toNat : Int) with _ | y
  · exact idx_none hx c h2 (by rw [e])
  · obtain ⟨l, hl, rfl, hs⟩ := idx_some hx
    have h3 := h _ hx
    have h4 : synd g span l = synd g span c := by rw [nat_eq hs, e]
    exact ha l c (by omega) h2 h4
theorem third_some {span i k l : Nat} (ha : Apart g span span) (h1 : i < k) (h2 : k < l) (h3 : l < span) (hn : NoThree g span i k) (he : ((synd g span l).toNat : Int) = ((synd g span i ^^^ synd g span k).toNat : Int)) : find3 g span = some [(i : Int), (k : Int), (l : Int)] :=
  three_some h1 h2 h3 hn (fun c _ hc e => ha c l hc h3 (by rw [← e, ← nat_eq he])) (nat_eq he).symm
/-- The list of syndromes, those from an index on filled in. -/
def syndFrom (g : BitVec W) (span k : Nat) : List Int := (List.range span).map fun i => if k ≤ i then ((synd g span i).toNat : Int) else 0
def syndAll (g : BitVec W) (span : Nat) : List Int := (List.range span).map fun i => ((synd g span i).toNat : Int)
theorem syndFrom_len (span k : Nat) : (syndFrom g span k).length = span := by simp [syndFrom]
theorem syndAll_len (span : Nat) : (syndAll g span).length = span := by simp [syndAll]
theorem syndAll_getD (span i : Nat) (h : i < span) : (syndAll g span).getD i 0 = ((synd g span i).toNat : Int) := by simp [syndAll, List.getD, h]
theorem syndFrom_top (span : Nat) : syndFrom g span span = List.replicate span 0 := by
  apply List.ext_getElem
  · simp [syndFrom]
  · intro i h1 h2
    have : i < span := by simpa [syndFrom] using h1
    simp [syndFrom]; omega
theorem syndFrom_zero (span : Nat) : syndFrom g span 0 = syndAll g span := by simp [syndFrom, syndAll]
theorem syndFrom_set (span k : Nat) : (syndFrom g span (k + 1)).set k (((synd g span k).toNat : Nat) : Int) = syndFrom g span k := by
  apply List.ext_getElem
  · simp [syndFrom]
  · intro i h1 h2
    rw [List.getElem_set]
    by_cases e : k = i
    · subst e; simp [syndFrom]
    · rw [if_neg e]
      simp only [syndFrom, List.getElem_map, List.getElem_range]
      by_cases c : k ≤ i
      · rw [if_pos c, if_pos (by omega)]
      · rw [if_neg c, if_neg (by omega)]
theorem synd_last (span : Nat) (h : 0 < span) : synd g span (span - 1) = g := by
  unfold synd; rw [show span - 1 - (span - 1) = 0 from by omega]; rfl
theorem synd_prev (span k : Nat) (h : k + 1 < span) : fb g (synd g span (k + 1)) false = synd g span k := by
  unfold synd
  rw [show span - 1 - k = (span - 1 - (k + 1)) + 1 from by omega, tail_succ]
end
end

section
open Go.Lib
theorem and_split (a r m s : Nat) (ha : a < 256) (hm : m < 256) : (a + 256 * r) &&& (m + 256 * s) = (a &&& m) + 256 * (r &&& s) := by
  have hlt : a &&& m < 256 := Nat.lt_of_le_of_lt Nat.and_le_left ha
  apply Nat.eq_of_testBit_eq
  intro j
  rw [Nat.testBit_and, Nat.add_comm a, Nat.add_comm m, Nat.add_comm (a &&& m)]
  rw [show 256 * r = 2 ^ 8 * r from rfl, show 256 * s = 2 ^ 8 * s from rfl, show 256 * (r &&& s) = 2 ^ 8 * (r &&& s) from rfl]
  rw [Nat.testBit_two_pow_mul_add _ (show a < 2 ^ 8 from ha), Nat.testBit_two_pow_mul_add _ (show m < 2 ^ 8 from hm), Nat.testBit_two_pow_mul_add _ (show a &&& m < 2 ^ 8 from hlt)]
  split
  · rw [Nat.testBit_and]
  · rw [Nat.testBit_and]
theorem and_three (a b c m s : Nat) (ha : a < 256) (hb : b < 256) (hc : c < 256) (hm : m < 256) : (a + 256 * (b + 256 * c)) &&& (m + 256 * (m + 256 * (m + 256 * s))) = (a &&& m) + 256 * ((b &&& m) + 256 * (c &&& m)) := by
  rw [and_split _ _ _ _ ha hm, and_split _ _ _ _ hb hm]
  have : c &&& (m + 256 * s) = c &&& m := by
    have h := and_split c 0 m s hc hm
    simpa using h
  rw [this]
def t1 (a : Nat) : Nat := (a / 2 &&& 85) + (a &&& 85)
def t2 (a : Nat) : Nat := (a / 4 &&& 51) + (a &&& 51)
def t3 (a : Nat) : Nat := (a + a / 16) % 16
theorem half_mask : ∀ a : Fin 256, ∀ t : Fin 2, (a.val / 2 + 128 * t.val) &&& 85 = a.val / 2 &&& 85 := by decide +kernel
theorem quarter_mask : ∀ a : Fin 256, ∀ t : Fin 4, (a.val / 4 + 64 * t.val) &&& 51 = a.val / 4 &&& 51 := by decide +kernel
theorem t1_lt : ∀ a : Fin 256, t1 a.val < 256 := by decide +kernel
theorem t2_lt : ∀ a : Fin 256, t2 (t1 a.val) < 256 ∧ t2 (t1 a.val) % 16 ≤ 4 ∧ t2 (t1 a.val) / 16 ≤ 4 := by decide +kernel
theorem t3_pop : ∀ a : Fin 256, t3 (t2 (t1 a.val)) = popAux 8 a.val := by decide +kernel
theorem pop8_le : ∀ a : Fin 256, popAux 8 a.val ≤ 8 := by decide +kernel
theorem step1 (a b c : Nat) (ha : a < 256) (hb : b < 256) (hc : c < 256) :
    ((a + 256 * (b + 256 * c)) / 2 &&& 6148914691236517205) + ((a + 256 * (b + 256 * c)) &&& 6148914691236517205) = t1 a + 256 * (t1 b + 256 * t1 c) := by
  rw [show (6148914691236517205 : Nat) = 85 + 256 * (85 + 256 * (85 + 256 * 366503875925)) from rfl, and_three _ _ _ _ _ ha hb hc (by omega)]
  rw [show (a + 256 * (b + 256 * c)) / 2 = (a / 2 + 128 * (b % 2)) + 256 * ((b / 2 + 128 * (c % 2)) + 256 * (c / 2)) from by omega]
  rw [and_three _ _ _ _ _ (by omega) (by omega) (by omega) (by omega)]
  have h1 := half_mask ⟨a, ha⟩ ⟨b % 2, by omega⟩
  have h2 := half_mask ⟨b, hb⟩ ⟨c % 2, by omega⟩
  simp only at h1 h2
  rw [h1, h2]
  unfold t1
  omega
theorem step2 (a b c : Nat) (ha : a < 256) (hb : b < 256) (hc : c < 256) :
    ((a + 256 * (b + 256 * c)) / 4 &&& 3689348814741910323) + ((a + 256 * (b + 256 * c)) &&& 3689348814741910323) = t2 a + 256 * (t2 b + 256 * t2 c) := by
  rw [show (3689348814741910323 : Nat) = 51 + 256 * (51 + 256 * (51 + 256 * 219902325555)) from rfl, and_three _ _ _ _ _ ha hb hc (by omega)]
  rw [show (a + 256 * (b + 256 * c)) / 4 = (a / 4 + 64 * (b % 4)) + 256 * ((b / 4 + 64 * (c % 4)) + 256 * (c / 4)) from by omega]
  rw [and_three _ _ _ _ _ (by omega) (by omega) (by omega) (by omega)]
  have h1 := quarter_mask ⟨a, ha⟩ ⟨b % 4, by omega⟩
  have h2 := quarter_mask ⟨b, hb⟩ ⟨c % 4, by omega⟩
  simp only at h1 h2
  rw [h1, h2]
  unfold t2
  omega
theorem and15 (a : Nat) : a &&& 15 = a % 16 := Nat.and_two_pow_sub_one_eq_mod a 4
theorem step3 (a b c : Nat) (ha : a < 256 ∧ a % 16 ≤ 4 ∧ a / 16 ≤ 4) (hb : b < 256 ∧ b % 16 ≤ 4 ∧ b / 16 ≤ 4) (hc : c < 256 ∧ c % 16 ≤ 4 ∧ c / 16 ≤ 4) :
    ((a + 256 * (b + 256 * c)) / 16 + (a + 256 * (b + 256 * c))) &&& 1085102592571150095 = t3 a + 256 * (t3 b + 256 * t3 c) := by
  rw [show (1085102592571150095 : Nat) = 15 + 256 * (15 + 256 * (15 + 256 * 64677154575)) from rfl]
  rw [show (a + 256 * (b + 256 * c)) / 16 + (a + 256 * (b + 256 * c)) = (a + a / 16 + 16 * (b % 16)) + 256 * ((b + b / 16 + 16 * (c % 16)) + 256 * (c + c / 16)) from by omega]
  rw [and_three _ _ _ _ _ (by omega) (by omega) (by omega) (by omega), and15, and15, and15]
  unfold t3
  omega
theorem popAux_add (n k : Nat) (v : Nat) : popAux (n + k) v = popAux n (v % 2 ^ n) + popAux k (v / 2 ^ n) := by
  induction n generalizing v with
  | zero => simp [popAux]
  | succ n ih =>
    rw [show n + 1 + k = (n + k) + 1 from by omega]
    show v % 2 + popAux (n + k) (v / 2) = v % 2 ^ (n + 1) % 2 + popAux n (v % 2 ^ (n + 1) / 2) + popAux k (v / 2 ^ (n + 1))
    rw [ih (v / 2), Nat.pow_succ, Nat.mul_comm (2 ^ n) 2, Nat.mod_mul_right_div_self, Nat.mod_mul_right_mod, Nat.div_div_eq_div_mul]
    omega
theorem popAux_zero (n : Nat) : popAux n 0 = 0 := by
  induction n with
  | zero => rfl
  | succ n ih => show 0 % 2 + popAux n (0 / 2) = 0; rw [show 0 / 2 = 0 from rfl, ih]
theorem popAux_more (n k v : Nat) (h : v < 2 ^ n) : popAux (n + k) v = popAux n v := by
  rw [popAux_add, Nat.mod_eq_of_lt h, Nat.div_eq_of_lt h, popAux_zero]; rfl
/-- The parts of bits.OnesCount64 for a number below 2^24. -/
theorem ones_parts (x : Nat) (h : x < 16777216) : ∃ u1 u2 v1 v2 y3 : Nat, u1 = x / 2 &&& 6148914691236517205 ∧ u2 = x &&& 6148914691236517205 ∧ v1 = (u1 + u2) / 4 &&& 3689348814741910323 ∧ v2 = (u1 + u2) &&& 3689348814741910323 ∧
    y3 = ((v1 + v2) / 16 + (v1 + v2)) &&& 1085102592571150095 ∧ u1 ≤ 16777216 ∧ u2 ≤ 16777216 ∧ v1 ≤ 33554432 ∧ v2 ≤ 33554432 ∧ y3 ≤ 16777216 ∧
    (y3 + y3 / 256 + (y3 + y3 / 256) / 65536 + (y3 + y3 / 256 + (y3 + y3 / 256) / 65536) / 4294967296) % 128 = popAux 24 x := by
  obtain ⟨a, ha⟩ : ∃ a, a = x % 256 := ⟨_, rfl⟩
  obtain ⟨b, hb⟩ : ∃ b, b = x / 256 % 256 := ⟨_, rfl⟩
  obtain ⟨c, hc⟩ : ∃ c, c = x / 65536 := ⟨_, rfl⟩
  have ha' : a < 256 := by omega
  have hb' : b < 256 := by omega
  have hc' : c < 256 := by omega
  have hx : x = a + 256 * (b + 256 * c) := by omega
  have hp : popAux 24 x = popAux 8 a + popAux 8 b + popAux 8 c := by
    rw [show 24 = 8 + (8 + 8) from rfl, popAux_add 8, popAux_add 8, show (2 : Nat) ^ 8 = 256 from rfl, ← ha, ← hb, Nat.div_div_eq_div_mul, show 256 * 256 = 65536 from rfl, ← hc]
    omega
  have s1 := step1 a b c ha' hb' hc'
  rw [← hx] at s1
  have l1 := t1_lt ⟨a, ha'⟩
  have l2 := t1_lt ⟨b, hb'⟩
  have l3 := t1_lt ⟨c, hc'⟩
  simp only at l1 l2 l3
  have s2 := step2 _ _ _ l1 l2 l3
  rw [← s1] at s2
  have m1 := t2_lt ⟨a, ha'⟩
  have m2 := t2_lt ⟨b, hb'⟩
  have m3 := t2_lt ⟨c, hc'⟩
  simp only at m1 m2 m3
  have s3 := step3 _ _ _ m1 m2 m3
  rw [← s2] at s3
  have p1 := t3_pop ⟨a, ha'⟩
  have p2 := t3_pop ⟨b, hb'⟩
  have p3 := t3_pop ⟨c, hc'⟩
  simp only at p1 p2 p3
  have q1 := pop8_le ⟨a, ha'⟩
  have q2 := pop8_le ⟨b, hb'⟩
  have q3 := pop8_le ⟨c, hc'⟩
  simp only at q1 q2 q3
  have hu1 : x / 2 &&& 6148914691236517205 ≤ x / 2 := Nat.and_le_left
  have hu2 : x &&& 6148914691236517205 ≤ x := Nat.and_le_left
  refine ⟨_, _, _, _, _, rfl, rfl, rfl, rfl, rfl, by omega, by omega, ?_, ?_, ?_, ?_⟩
  · exact Nat.le_trans Nat.and_le_left (by omega)
  · exact Nat.le_trans Nat.and_le_left (by omega)
  · rw [s3]; omega
  · rw [s3, hp, p1, p2, p3]
    generalize popAux 8 a = A at *
    generalize popAux 8 b = B at *
    generalize popAux 8 c = C at *
    clear s1 s2 s3 l1 l2 l3 m1 m2 m3 p1 p2 p3 hu1 hu2 hp hx ha hb hc
    have e1 : (A + 256 * (B + 256 * C)) / 256 = B + 256 * C := by omega
    rw [e1]
    have e2 : (A + 256 * (B + 256 * C) + (B + 256 * C)) / 65536 = C := by omega
    rw [e2]
    have e3 : (A + 256 * (B + 256 * C) + (B + 256 * C) + C) / 4294967296 = 0 := by omega
    rw [e3]
    omega

theorem ofInt_natU (a : Nat) (h : a < 18446744073709551616) : (BitVec.ofInt 64 (a : Int)).toNat = a := by
  rw [BitVec.toNat_ofInt]; omega
theorem and_natU (a b : Nat) (ha : a < 18446744073709551616) (hb : b < 18446744073709551616) : bits .and .u64 (a : Int) (b : Int) = ((a &&& b : Nat) : Int) := by
  show IntKind.u64.wrap ((BitVec.ofInt 64 (a : Int) &&& BitVec.ofInt 64 (b : Int)).toNat : Nat) = _
  rw [BitVec.toNat_and, ofInt_natU a ha, ofInt_natU b hb, IntKind.wrap_u64]
  have : a &&& b ≤ a := Nat.and_le_left
  omega
/-- .. as Go reckons. -/
theorem ones_ints (x : Nat) (h : x < 16777216) : ∃ u1 u2 v1 v2 y3 : Int, bits .and .u64 ((x : Int) / 2) 6148914691236517205 = u1 ∧ bits .and .u64 (x : Int) 6148914691236517205 = u2 ∧ bits .and .u64 ((u1 + u2) / 4) 3689348814741910323 = v1 ∧ bits .and .u64 (u1 + u2) 3689348814741910323 = v2 ∧
    bits .and .u64 ((v1 + v2) / 16 + (v1 + v2)) 1085102592571150095 = y3 ∧ (0 ≤ u1 ∧ u1 ≤ 16777216) ∧ (0 ≤ u2 ∧ u2 ≤ 16777216) ∧ (0 ≤ v1 ∧ v1 ≤ 33554432) ∧ (0 ≤ v2 ∧ v2 ≤ 33554432) ∧ (0 ≤ y3 ∧ y3 ≤ 16777216) ∧
    bits .and .i64 (y3 + y3 / 256 + (y3 + y3 / 256) / 65536 + (y3 + y3 / 256 + (y3 + y3 / 256) / 65536) / 4294967296) 127 = (popAux 24 x : Int) := by
  obtain ⟨u1, u2, v1, v2, y3, e1, e2, e3, e4, e5, b1, b2, b3, b4, b5, e6⟩ := ones_parts x h
  refine ⟨u1, u2, v1, v2, y3, ?_, ?_, ?_, ?_, ?_, by omega, by omega, by omega, by omega, by omega, ?_⟩
  · rw [e1]; exact and_natU (x / 2) 6148914691236517205 (by omega) (by omega)
  · rw [e2]; exact and_natU x 6148914691236517205 (by omega) (by omega)
  · rw [e3]; exact and_natU ((u1 + u2) / 4) 3689348814741910323 (by omega) (by omega)
  · rw [e4]; exact and_natU (u1 + u2) 3689348814741910323 (by omega) (by omega)
  · rw [e5]; exact and_natU ((v1 + v2) / 16 + (v1 + v2)) 1085102592571150095 (by omega) (by omega)
  · rw [← e6]
    have h1 := and_nat (y3 + y3 / 256 + (y3 + y3 / 256) / 65536 + (y3 + y3 / 256 + (y3 + y3 / 256) / 65536) / 4294967296) 127 (by omega) (by omega)
    rw [Nat.and_two_pow_sub_one_eq_mod _ 7] at h1
    exact h1
theorem weight_pop (n : Nat) : ∀ v : Nat, weight (bitsOf (v : Int) n) = (popAux n v : Int) := by
  induction n with
  | zero => intro v; rfl
  | succ n ih =>
    intro v
    have e : (v : Int) = 2 * ((v / 2 : Nat) : Int) + ((v % 2 : Nat) : Int) := by omega
    rw [e, bitsOf_snoc _ _ _ (by omega) (by omega), weight_append, ih]
    show (popAux n (v / 2) : Int) + weight [((v % 2 : Nat) : Int)] = ((v % 2 + popAux n (v / 2) : Nat) : Int)
    rw [weight_cons, weight_nil]
    omega
/-- The number of ones of a polynomial of W bits. -/
theorem pop_weight {W : Nat} (g : BitVec W) (hW : W ≤ 24) : (popAux 24 g.toNat : Int) = weight (bitsOf (g.toNat : Int) W) := by
  rw [weight_pop]
  have := popAux_more W (24 - W) g.toNat g.isLt
  rw [show W + (24 - W) = 24 from by omega] at this
  rw [this]
end

section
open Go.RowKit Go.Maps

/-- Block b is a map of at most n entries; its keys are the numbers that f sends somewhere, each with its image. -/
def MapIs (P : Program) (K E : Nat) (w : World) (b n : Nat) (f : Int → Option Int) : Prop :=
  ∃ D : DataW Unit, w.ownsMap P K (plainElem P E) b n D ∧ ∀ x : Int, Maps.has D (.int .i64 x) = (f x).isSome ∧ ∀ y, f x = some y → D.atKey (.int .i64 x) (.lit (.int .i64 0)) = .lit (.int .i64 y)

section
variable {P : Program} {K E : Nat} {w w' : World} {b n : Nat} {f : Int → Option Int}
theorem mapIs_made (w : World) : MapIs P K E (w.alloc (.map #[] 0)) w.heap.size 0 (fun _ => none) :=
  ⟨_, World.ownsMap_made w P K _, fun x => ⟨rfl, fun y h => by cases h⟩⟩
theorem MapIs.kept {row : Option Nat} (h : MapIs P K E w b n f) (hg : w.grownBy w' row) (hne : some b ≠ row) : MapIs P K E w' b n f := by
  obtain ⟨D, h1, h2⟩ := h
  exact ⟨D, h1.kept hg hne, h2⟩
theorem MapIs.below (h : MapIs P K E w b n f) (hb : Below w.heap.size w w') : MapIs P K E w' b n f := h.kept (row := none) ⟨hb.os, hb.tape, hb.output, hb.size, fun i hi _ => hb.block i hi⟩ (by simp)
theorem MapIs.lt (h : MapIs P K E w b n f) : b < w.heap.size := by obtain ⟨D, h1, _⟩ := h; exact h1.lt
theorem MapIs.same (h : MapIs P K E w b n f) {f' : Int → Option Int} (e : f = f') : MapIs P K E w b n f' := e ▸ h
end

/-- 'make(map[int64]int64, n)': the number is only a hint. -/
theorem run_makeMap_hint {P : Program} {T K E : Nat} (ht : P.underlying T = some (.map K E)) (q : IntKind) (x : Int) (w : World) :
    (Instr.makeMap T (some (.int q x))).run P w = .ok (.map (some w.heap.size)) (w.alloc (.map #[] 0)) := by
  simp [Instr.makeMap, run_underlying ht, Result.andThen]; rfl

section
variable {P : Program} {K E T : Nat} (w : World) {ops : Array Oper} {rest : List Oper} {o : Oper} {a : Act} {Q : Exit → Act → World → Prop}
/-- 'v, ok := m[x]' where the key is there. -/
theorem lookup_hit (hgd : o.guard = none) (m x : Operand) (hop : o.op = Op.lookup T m x true) (hK : P.underlying K = some (.int .i64)) (hE : P.underlying E = some (.int .i64)) (ht : P.underlying T = some (.map K E)) (hz : (zeroValue E).run P w = .ok (.int .i64 0) w)
    (b n : Nat) (f : Int → Option Int) (hm : a.eval m = .map (some b)) (hown : MapIs P K E w b n f) (k y : Int) (hx : a.eval x = .int .i64 k) (hwf : -9223372036854775808 ≤ k ∧ k ≤ 9223372036854775807) (hf : f k = some y)
    (h : wpList P ops Q rest (a.put o.dst (.tuple #[.int .i64 y, .bool true])) w) : wpList P ops Q (o :: rest) a w := by
  obtain ⟨D, h1, h2⟩ := hown
  refine wpList_lookup_own_ok_int w hgd m x T hop K E .i64 (int_keyed hK) ht hE hz b n D hm h1 _ _ hx (keyOf_int_mk hK (WalkArith.wf_i64 hwf)) ?_
  intro c hc _
  obtain ⟨h3, h4⟩ := h2 k
  rw [h4 y hf] at hc
  rw [h3, hf]
  simp only [Option.isSome_some]
  have : y = c := by simpa using hc
  rw [← this]; exact h
/-- .. where it is not. -/
theorem lookup_miss (hgd : o.guard = none) (m x : Operand) (hop : o.op = Op.lookup T m x true) (hK : P.underlying K = some (.int .i64)) (hE : P.underlying E = some (.int .i64)) (ht : P.underlying T = some (.map K E)) (hz : (zeroValue E).run P w = .ok (.int .i64 0) w)
    (b n : Nat) (f : Int → Option Int) (hm : a.eval m = .map (some b)) (hown : MapIs P K E w b n f) (k : Int) (hx : a.eval x = .int .i64 k) (hwf : -9223372036854775808 ≤ k ∧ k ≤ 9223372036854775807) (hf : f k = none)
    (h : wpList P ops Q rest (a.put o.dst (.tuple #[.int .i64 0, .bool false])) w) : wpList P ops Q (o :: rest) a w := by
  obtain ⟨D, h1, h2⟩ := hown
  refine wpList_lookup_own_ok_int w hgd m x T hop K E .i64 (int_keyed hK) ht hE hz b n D hm h1 _ _ hx (keyOf_int_mk hK (WalkArith.wf_i64 hwf)) ?_
  intro c hc _
  obtain ⟨h3, h4⟩ := h2 k
  rw [hf] at h3
  rw [atKey_of_not_has h3] at hc
  rw [h3]
  simp only [Option.isSome_none]
  have : (0 : Int) = c := by simpa using hc
  rw [← this]; exact h
/-- 'm[k] = y'. -/
theorem store_new (hgd : o.guard = none) (m x v : Operand) (hop : o.op = Op.mapUpdate T m x v) (hK : P.underlying K = some (.int .i64)) (hE : P.underlying E = some (.int .i64)) (ht : P.underlying T = some (.map K E))
    (b n : Nat) (f : Int → Option Int) (hm : a.eval m = .map (some b)) (hown : MapIs P K E w b n f) (hn : n ≤ 4294967296) (k y : Int) (hx : a.eval x = .int .i64 k) (hv : a.eval v = .int .i64 y) (hwf : -9223372036854775808 ≤ k ∧ k ≤ 9223372036854775807) (hwy : -9223372036854775808 ≤ y ∧ y ≤ 9223372036854775807)
    (h : ∀ w', MapIs P K E w' b (n + 1) (fun z => if z = k then some y else f z) → w.grownBy w' (some b) → wpList P ops Q rest (a.put o.dst undef) w') : wpList P ops Q (o :: rest) a w := by
  obtain ⟨D, h1, h2⟩ := hown
  refine wpList_mapUpdate_own w hgd m x v T hop K E (int_keyed hK) ht (plainElem P E) b n D hm h1 (by unfold maxLen; omega) _ _ _ hx hv (keyOf_int_mk hK (WalkArith.wf_i64 hwf)) (.lit (.int .i64 y)) [] (plainElem_int hE (WalkArith.wf_i64 hwy)) ?_
  intro w' h3 h4
  refine h w' ⟨_, h3, fun z => ?_⟩ h4
  by_cases e : z = k
  · subst e
    simp only [if_true]
    refine ⟨has_put_same h1.isMap (by trivial) _, fun y' hy' => ?_⟩
    rw [atKey_put_same h1.isMap (by trivial)]
    have : y = y' := by simpa using hy'
    rw [this]
  · simp only [if_neg e]
    have hne : (Lit.int .i64 z) ≠ (Lit.int .i64 k) := by simpa using e
    rw [has_put_other hne, atKey_put_other hne]
    exact h2 z
end
end
end Go.Proofs.Ytdcalkobcdeclaa
