/-
  The plain functions of chapter 3, and what its laws say of them. No program is named here.
-/
import Derived.Test.YtfmbefmiglpijaaReg
import Derived.Test.YtfmbefmiglpijaaTwo
import Derived.Test.YtfmbefmiglpijaaLawC
namespace Go.Proofs.Ytfmbefmiglpijaa

def isMissed (wd p : Int) (xs : List Int) : Bool := isCrc wd p && isBits xs && decide (0 < weight xs) && decide (crcRaw wd p 0 xs = 0)
def orderOf (wd p : Int) : Int × Int :=
  if isCrc wd p = false then (0, 1) else if order (BitVec.ofNat wd.toNat p.toNat) ≤ 5000 then ((order (BitVec.ofNat wd.toNat p.toNat) : Int), 0) else (0, 3)
def spanCode (wd p span : Int) : Int := if isCrc wd p = false then 1 else if ¬ (1 ≤ span ∧ span ≤ 64) then 2 else 0
def leastOf (wd p span : Int) : Int × Int :=
  if spanCode wd p span ≠ 0 then (0, spanCode wd p span) else ((leastWeight (BitVec.ofNat wd.toNat p.toNat) span.toNat : Int), 0)
def firstOf (wd p span : Int) : List Int × Int :=
  if spanCode wd p span ≠ 0 then ([], spanCode wd p span) else if firstMissed (BitVec.ofNat wd.toNat p.toNat) span.toNat = [] then ([], 4) else (firstMissed (BitVec.ofNat wd.toNat p.toNat) span.toNat, 0)
def burstOf (xs : List Int) : Int × Int × Int :=
  if isBits xs = false then (0, 0, 1) else if (burst xs).2 = 0 then (0, 0, 4) else ((burst xs).1, (burst xs).2, 0)
/-- One of the reasons for which an error is found (the order taken for 5001 where it is greater than 5000). -/
def reason (wd p : Int) (xs : List Int) : Bool :=
  (decide (weight xs % 2 = 1) && decide (weight (bitsOf p wd.toNat) % 2 = 1)) || decide (((burst xs).2 : Int) ≤ wd) || (decide (weight xs = 2) && decide (((burst xs).2 : Int) - 1 < (order (BitVec.ofNat wd.toNat p.toNat) : Int)))
def isFound (wd p : Int) (xs : List Int) : Bool × Int :=
  if isCrc wd p = false then (false, 1) else if isBits xs = false ∨ weight xs = 0 then (false, 3) else (reason wd p xs, 0)
def sumErrors (xs ys : List Int) : List Int × Int :=
  if isBits xs = false ∨ isBits ys = false then ([], 1) else if xs.length ≠ ys.length then ([], 5) else (xorL xs ys, 0)

theorem crcRaw_zero {W : Nat} (g : BitVec W) (xs : List Int) : crcRaw (W : Int) (g.toNat : Int) 0 xs = regOf g 0#W xs := by
  have h := crcRaw_eq g (0#W) xs
  rwa [show (((0#W).toNat : Nat) : Int) = 0 from by simp] at h
theorem regOf_zero {W : Nat} (g : BitVec W) (xs : List Int) : regOf g 0#W xs = 0 ↔ fbs g 0#W (bl xs) = 0#W := by
  unfold regOf
  constructor
  · intro h
    apply BitVec.eq_of_toNat_eq
    rw [show (0#W).toNat = 0 from by simp]; omega
  · intro h; rw [h]; simp
/-- An error that is found for one of the reasons is not missed. -/
theorem found_round {wd p : Int} {xs : List Int} (h : isFound wd p xs = (true, 0)) : isMissed wd p xs = false := by
  unfold isFound at h
  split at h
  · cases h
  · rename_i hc
    split at h
    · cases h
    · rename_i hw
      have hc : isCrc wd p = true := by simpa using hc
      obtain ⟨hb, hw⟩ := not_or.1 hw
      have hb : isBits xs = true := by simpa using hb
      have hr : reason wd p xs = true := congrArg Prod.fst h
      obtain ⟨W, g, rfl, h1, h2, rfl, hg⟩ := isCrc_get hc
      have hbits := (isBits_iff.1 hb).2
      have hwb := weight_bound xs hbits
      have ho : 1 ≤ order g := (ord_le 5000 1).1
      unfold reason at hr
      rw [Int.toNat_natCast, Int.toNat_natCast, show BitVec.ofNat W g.toNat = g from by simp] at hr
      simp only [Bool.or_eq_true, Bool.and_eq_true, decide_eq_true_eq] at hr
      have hs := found_synd hg hbits (by omega) (by
        rcases hr with (hr | hr) | hr
        · exact .inl hr
        · exact .inr (.inl (by omega))
        · exact .inr (.inr ⟨hr.1, by omega⟩))
      unfold isMissed
      rw [crcRaw_zero, show decide (regOf g 0#W xs = 0) = false from decide_eq_false fun h => hs ((regOf_zero g xs).1 h)]
      simp
theorem zeros_bits (n : Nat) : ∀ x ∈ List.replicate n (0 : Int), 0 ≤ x ∧ x ≤ 1 := fun x hx => by rw [List.eq_of_mem_replicate hx]; omega
theorem flip1_bits {xs : List Int} (h : ∀ x ∈ xs, 0 ≤ x ∧ x ≤ 1) (i : Nat) : ∀ x ∈ xs.set i (1 - xs.getD i 0), 0 ≤ x ∧ x ≤ 1 := by
  have := flips_bits xs [(i : Int)] h
  simpa [flips] using this
theorem weight_pos {xs : List Int} (hb : ∀ x ∈ xs, 0 ≤ x ∧ x ≤ 1) (i : Nat) (hi : xs.getD i 0 = 1) : 0 < weight xs := by
  have h := weight_bound xs hb
  rcases Int.lt_or_eq_of_le h.1 with h1 | h1
  · exact h1
  · have e := weight_zero hb h1.symm
    rw [e] at hi
    by_cases hl : i < xs.length
    · simp [List.getD, hl] at hi
    · rw [← e, getD_out (by omega)] at hi; omega
theorem set_getD (xs : List Int) (i : Nat) (x : Int) (j : Nat) : (xs.set i x).getD j 0 = if i = j ∧ j < xs.length then x else xs.getD j 0 := by
  simp only [List.getD, List.getElem?_set]
  by_cases h : i = j
  · subst h
    by_cases hl : i < xs.length
    · simp [hl]
    · simp [hl]
  · simp [h]
/-- The first missed error, as a list of errors, is missed. -/
theorem first_round {W : Nat} {g : BitVec W} (hg : g.getLsbD 0 = true) {span : Nat} (hs : span ≤ 64) (hne : firstMissed g span ≠ []) :
    ∃ xs, flipBits (List.replicate span 0) (firstMissed g span) = (xs, 0) ∧ isBits xs = true ∧ 0 < weight xs ∧ fbs g 0#W (bl xs) = 0#W := by
  have hz := zeros_bits span
  have hzl : (List.replicate span (0 : Int)).length = span := List.length_replicate
  have hzb : isBits (List.replicate span (0 : Int)) = true := isBits_iff.2 ⟨by omega, hz⟩
  have hz0 : fbs g 0#W (bl (List.replicate span 0)) = 0#W := by rw [bl_zeros, fbs_zero]
  have hzg : ∀ j, (List.replicate span (0 : Int)).getD j 0 = 0 := fun j => by
    by_cases h : j < span
    · simp [List.getD, h]
    · exact getD_out (by omega)
  rcases firstMissed_cases hg span with ⟨i, k, h1, h2, h3, h4⟩ | ⟨-, i, k, j, h1, h2, h3, h4, h5⟩ | ⟨-, -, h⟩
  · rw [h3]
    have a1 := synd_flip (g := g) span i _ hzl hz (by omega)
    have l1 : ((List.replicate span (0 : Int)).set i (1 - (List.replicate span (0 : Int)).getD i 0)).length = span := by rw [List.length_set, hzl]
    have b1 := flip1_bits hz i
    have a2 := synd_flip (g := g) span k _ l1 b1 h2
    have b2 := flip1_bits b1 k
    refine ⟨_, fb_0 hzb (rises_iff.2 fun m hm => ?_), ?_, ?_, ?_⟩
    · rw [hzl]
      match m, hm with
      | 0, _ => exact ⟨by rw [prev_zero]; simp; omega, by simp; omega⟩
      | 1, _ => exact ⟨by rw [prev_succ]; simp; omega, by simp; omega⟩
    · exact isBits_iff.2 ⟨by rw [flips_len, hzl]; omega, flips_bits _ _ hz⟩
    · refine weight_pos (flips_bits _ _ hz) i ?_
      show (((List.replicate span (0 : Int)).set i (1 - (List.replicate span (0 : Int)).getD i 0)).set k (1 - _)).getD i 0 = 1
      rw [set_getD, if_neg (by omega), set_getD, if_pos ⟨rfl, by omega⟩, hzg]; rfl
    · rw [a1, hz0, BitVec.zero_xor, h4, BitVec.xor_self] at a2
      exact a2
  · rw [h4]
    have a1 := synd_flip (g := g) span i _ hzl hz (by omega)
    have l1 : ((List.replicate span (0 : Int)).set i (1 - (List.replicate span (0 : Int)).getD i 0)).length = span := by rw [List.length_set, hzl]
    have b1 := flip1_bits hz i
    have a2 := synd_flip (g := g) span k _ l1 b1 (by omega)
    have b2 := flip1_bits b1 k
    have l2 : (((List.replicate span (0 : Int)).set i (1 - (List.replicate span (0 : Int)).getD i 0)).set k (1 - ((List.replicate span (0 : Int)).set i (1 - (List.replicate span (0 : Int)).getD i 0)).getD k 0)).length = span := by rw [List.length_set, l1]
    have a3 := synd_flip (g := g) span j _ l2 b2 h3
    refine ⟨_, fb_0 hzb (rises_iff.2 fun m hm => ?_), ?_, ?_, ?_⟩
    · rw [hzl]
      match m, hm with
      | 0, _ => exact ⟨by rw [prev_zero]; simp; omega, by simp; omega⟩
      | 1, _ => exact ⟨by rw [prev_succ]; simp; omega, by simp; omega⟩
      | 2, _ => exact ⟨by rw [prev_succ]; simp; omega, by simp; omega⟩
    · exact isBits_iff.2 ⟨by rw [flips_len, hzl]; omega, flips_bits _ _ hz⟩
    · refine weight_pos (flips_bits _ _ hz) i ?_
      show ((((List.replicate span (0 : Int)).set i (1 - (List.replicate span (0 : Int)).getD i 0)).set k (1 - _)).set j (1 - _)).getD i 0 = 1
      rw [set_getD, if_neg (by omega), set_getD, if_neg (by omega), set_getD, if_pos ⟨rfl, by omega⟩, hzg]; rfl
    · rw [a2, a1, hz0, BitVec.zero_xor, h5, BitVec.xor_self] at a3
      exact a3
  · exact absurd h hne
/-- Two ones at a distance n, as the laws lay them. -/
theorem pair_list (n : Nat) : ((List.replicate (n + 2) (0 : Int)).set 0 1).set (n + 1) 1 = [1] ++ List.replicate n 0 ++ [1] := by
  rw [show n + 2 = (n + 1) + 1 from rfl, List.replicate_succ, List.set_cons_zero, List.set_cons_succ, List.replicate_succ', List.set_append_right _ _ (by simp)]
  simp
theorem pair_isMissed {W : Nat} {g : BitVec W} (h1 : 3 ≤ W) (h2 : W ≤ 24) (hg : g.getLsbD 0 = true) (n : Nat) (hn : n + 2 ≤ 8192) : isMissed (W : Int) (g.toNat : Int) ([1] ++ List.replicate n 0 ++ [1]) = decide (tail g (n + 1) = g) := by
  have hb : ∀ x ∈ [1] ++ List.replicate n (0 : Int) ++ [1], 0 ≤ x ∧ x ≤ 1 := by
    intro x hx
    simp only [List.mem_append, List.mem_singleton] at hx
    rcases hx with (hx | hx) | hx
    · omega
    · rw [List.eq_of_mem_replicate hx]; omega
    · omega
  have hbt : isBits ([1] ++ List.replicate n (0 : Int) ++ [1]) = true := isBits_iff.2 ⟨by simp; omega, hb⟩
  have hw : 0 < weight ([1] ++ List.replicate n (0 : Int) ++ [1]) := weight_pos hb 0 rfl
  unfold isMissed
  rw [isCrc_put h1 h2 hg, hbt, decide_eq_true hw, crcRaw_zero]
  simp only [Bool.and_self, Bool.true_and]
  rw [decide_eq_decide, regOf_zero, pair_missed]
theorem xorL_back : ∀ (xs ys : List Int), xs.length = ys.length → (∀ x ∈ xs, 0 ≤ x ∧ x ≤ 1) → (∀ y ∈ ys, 0 ≤ y ∧ y ≤ 1) → xorL (xorL xs ys) ys = xs
  | [], [], _, _, _ => rfl
  | x :: xs, y :: ys, h, hx, hy => by
    have ih := xorL_back xs ys (by simpa using h) (fun a ha => hx a (by simp [ha])) (fun a ha => hy a (by simp [ha]))
    have hx1 := hx x (by simp)
    have hy1 := hy y (by simp)
    show bits .xor .i64 (bits .xor .i64 x y) y :: xorL (xorL xs ys) ys = x :: xs
    rw [ih]
    congr 1
    have c1 : x = 0 ∨ x = 1 := by omega
    have c2 : y = 0 ∨ y = 1 := by omega
    rcases c1 with rfl | rfl <;> rcases c2 with rfl | rfl <;> decide
  | [], _ :: _, h, _, _ => by simp at h
  | _ :: _, [], h, _, _ => by simp at h
/-- The sum of two error lists is the first list when it is added to the second one. -/
theorem sum_round {xs ys s : List Int} (h : sumErrors xs ys = (s, 0)) : sumErrors s ys = (xs, 0) := by
  unfold sumErrors at h
  split at h
  · cases h
  · split at h
    · cases h
    · rename_i h1 h2
      obtain ⟨ha, hb⟩ := not_or.1 h1
      have ha : isBits xs = true := by simpa using ha
      have hb : isBits ys = true := by simpa using hb
      have hl : xs.length = ys.length := by simpa using h2
      simp only [Prod.mk.injEq, and_true] at h
      subst h
      have hxb := (isBits_iff.1 ha)
      have hyb := (isBits_iff.1 hb)
      have hln := xorL_len xs ys hl
      have hs : isBits (xorL xs ys) = true := isBits_iff.2 ⟨by omega, (xorL_bl xs ys hl hxb.2 hyb.2).2⟩
      unfold sumErrors
      rw [if_neg (by simp [hs, hb]), if_neg (by omega), xorL_back xs ys hl hxb.2 hyb.2]
theorem burst_weight (xs : List Int) (h : 0 < (burst xs).2) : weight xs = weight ((xs.drop (burst xs).1).take (burst xs).2) := by
  obtain ⟨-, hp⟩ := burst_parts xs h
  have := congrArg weight hp
  rw [weight_append, weight_append, weight_zeros, weight_zeros] at this
  omega
end Go.Proofs.Ytfmbefmiglpijaa
