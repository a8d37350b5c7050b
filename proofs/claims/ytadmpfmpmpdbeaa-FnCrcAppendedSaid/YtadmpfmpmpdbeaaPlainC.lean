/-
  What the functions of chapter 2 compute, as plain functions on numbers and lists, and the bridge between Go's operations on registers and bit vectors. No program is named here.
-/
import Derived.Test.YtadmpfmpmpdbeaaCrc
import Derived.Test.YtadmpfmpmpdbeaaBits
import Derived.Test.YtadmpfmpmpdbeaaC1
namespace Go.Proofs.Ytadmpfmpmpdbeaa

/-- The register behind a list of bits, as a number. -/
def regOf {W : Nat} (g r : BitVec W) (xs : List Int) : Int := ((fbs g r (bl xs)).toNat : Int)
/-- The table's entry for a byte. -/
def tabOf {W : Nat} (g : BitVec W) (i : Nat) : Int := regOf g 0#W (bitsOf i 8)

section
variable {W : Nat} {g r : BitVec W}
theorem reg_lt (hW : W ≤ 24) (x : BitVec W) : (0 : Int) ≤ (x.toNat : Int) ∧ (x.toNat : Int) ≤ 16777215 := by
  have h1 := x.isLt
  have h2 : (2 : Nat) ^ W ≤ 2 ^ 24 := Nat.pow_le_pow_right (by omega) hW
  omega
theorem reg_pow (x : BitVec W) : (x.toNat : Int) < 2 ^ W := by
  have h1 := x.isLt
  have e : ((2 ^ W : Nat) : Int) = (2 : Int) ^ W := by simp
  omega
theorem reg_top (h1 : 1 ≤ W) : (r.toNat : Int) / 2 ^ (W - 1) = if r.msb then 1 else 0 := by
  have hl := r.isLt
  have e : ((2 ^ (W - 1) : Nat) : Int) = (2 : Int) ^ (W - 1) := by simp
  have e2 : (2 : Nat) ^ W = 2 * 2 ^ (W - 1) := by rw [← Nat.pow_succ']; congr 1; omega
  rw [← e, ← Int.natCast_ediv, BitVec.msb_eq_decide]
  have hp : 0 < (2 : Nat) ^ (W - 1) := Nat.two_pow_pos _
  by_cases h : 2 ^ (W - 1) ≤ r.toNat
  · have : r.toNat / 2 ^ (W - 1) = 1 := by
      rw [Nat.div_eq_iff hp]; omega
    simp [h, this]
  · have : r.toNat / 2 ^ (W - 1) = 0 := Nat.div_eq_of_lt (by omega)
    simp [h, this]
theorem reg_shift : ((r <<< 1).toNat : Int) = (r.toNat : Int) * (2 : Int) % (2 : Int) ^ W := by
  rw [BitVec.toNat_shiftLeft, Nat.shiftLeft_eq]
  simp
theorem reg_mask (hW : W ≤ 24) (x : Nat) (hx : x < 9223372036854775808) : bits .and .i64 (x : Int) (2 ^ W - 1) = ((x % 2 ^ W : Nat) : Int) := by
  have h2 : (2 : Nat) ^ W ≤ 2 ^ 24 := Nat.pow_le_pow_right (by omega) hW
  have hp : 0 < (2 : Nat) ^ W := Nat.two_pow_pos _
  have e : (2 : Int) ^ W - 1 = ((2 ^ W - 1 : Nat) : Int) := by rw [Int.natCast_sub hp]; simp
  rw [e, and_nat _ _ hx (by omega), Nat.and_two_pow_sub_one_eq_mod]
theorem reg_double (hW : W ≤ 24) : bits .and .i64 ((r.toNat : Int) * 2) (2 ^ W - 1) = ((r <<< 1).toNat : Int) := by
  have := reg_lt hW r
  have e : (r.toNat : Int) * 2 = ((r.toNat * 2 : Nat) : Int) := by omega
  rw [e, reg_mask hW _ (by omega), BitVec.toNat_shiftLeft, Nat.shiftLeft_eq, Nat.pow_one]
theorem reg_rem (h1 : 1 ≤ W) : (r.toNat : Int) % (2 : Int) ^ (W - 1) * (2 : Int) = ((r <<< 1).toNat : Int) := by
  rw [reg_shift, show (2 : Int) ^ W = 2 ^ (W - 1) * 2 from by rw [← Int.pow_succ]; congr 1; omega]
  have h := Nat.mul_mod_mul_right 2 r.toNat (2 ^ (W - 1))
  exact_mod_cast h.symm
theorem reg_xor (hW : W ≤ 24) (x y : BitVec W) : bits .xor .i64 (x.toNat : Int) (y.toNat : Int) = ((x ^^^ y).toNat : Int) := by
  have := reg_lt hW x
  have := reg_lt hW y
  rw [xor_nat _ _ (by omega) (by omega), BitVec.toNat_xor]
theorem fb_t {b : Bool} (h : (r.msb ^^ b) = true) : fb g r b = (r <<< 1) ^^^ g := by unfold fb; rw [h]; rfl
theorem fb_f {b : Bool} (h : (r.msb ^^ b) = false) : fb g r b = r <<< 1 := by unfold fb; rw [h]; simp
theorem bl_snoc (xs : List Int) (x : Int) : bl (xs ++ [x]) = bl xs ++ [decide (x = 1)] := by simp [bl]
theorem bl_append (xs ys : List Int) : bl (xs ++ ys) = bl xs ++ bl ys := by simp [bl]
theorem bl_len (xs : List Int) : (bl xs).length = xs.length := by simp [bl]
theorem fbs_take (xs : List Int) (k : Nat) (hk : k < xs.length) : fbs g r (bl (xs.take (k + 1))) = fb g (fbs g r (bl (xs.take k))) (decide (xs.getD k 0 = 1)) := by
  rw [take_succ' xs k hk, bl_snoc, fbs_snoc]
/-- The test of a step, on the program's side. -/
theorem step_ne (h1 : 1 ≤ W) (B : Int) (hB : 0 ≤ B ∧ B ≤ 1) : ((r.toNat : Int) / 2 ^ (W - 1) != B) = (r.msb ^^ decide (B = 1)) := by
  rw [reg_top h1]
  have : B = 0 ∨ B = 1 := by omega
  rcases this with rfl | rfl <;> cases r.msb <;> rfl
/-- The test of a step, on the specification's side. -/
theorem step_xor (h1 : 1 ≤ W) (B : Int) (hB : 0 ≤ B ∧ B ≤ 1) : bits .xor .i64 ((r.toNat : Int) / 2 ^ (W - 1)) B = if (r.msb ^^ decide (B = 1)) then 1 else 0 := by
  rw [reg_top h1]
  have : B = 0 ∨ B = 1 := by omega
  rcases this with rfl | rfl <;> cases r.msb <;> decide
end

/-- A valid code. -/
def isCrc (wd p : Int) : Bool := decide (3 ≤ wd) && decide (wd ≤ 24) && decide (1 ≤ p) && decide (p ≤ 2 ^ wd.toNat - 1) && decide (p % 2 = 1)
def seedIn (wd s : Int) : Bool := decide (0 ≤ s) && decide (s ≤ 2 ^ wd.toNat - 1)
/-- The first errors in common: 1, 2 or 0. -/
def crcCode (wd p s : Int) : Int := if isCrc wd p = false then 1 else if seedIn wd s = false then 2 else 0
/-- The register behind a list, for a valid code. -/
def crcRaw (wd p s : Int) (xs : List Int) : Int := regOf (BitVec.ofNat wd.toNat p.toNat) (BitVec.ofNat wd.toNat s.toNat) xs
def crcOfBits (wd p s : Int) (xs : List Int) : Int × Int :=
  if crcCode wd p s ≠ 0 then (0, crcCode wd p s) else if isBits xs = false then (0, 3) else (crcRaw wd p s xs, 0)
def crcOfBytes (wd p s : Int) (xs : List Int) : Int × Int :=
  if crcCode wd p s ≠ 0 then (0, crcCode wd p s) else if isBytes xs = false then (0, 3) else (crcRaw wd p s (xs.flatMap (bitsOf · 8)), 0)
def crcTab (wd p : Int) (k : Nat) : List Int := (List.range k).map (tabOf (BitVec.ofNat wd.toNat p.toNat))
def crcTable (wd p : Int) : List Int × Int := if isCrc wd p = false then ([], 1) else (crcTab wd p 256, 0)
def appendCrc (wd p s : Int) (xs : List Int) : List Int × Int :=
  if (crcOfBits wd p s xs).2 ≠ 0 then ([], (crcOfBits wd p s xs).2) else if 8192 < (xs.length : Int) + wd then ([], 3) else (xs ++ bitsOf (crcOfBits wd p s xs).1 wd.toNat, 0)
def hasCrc (wd p s : Int) (xs : List Int) : Bool := decide (crcCode wd p s = 0) && isBits xs && decide (wd ≤ (xs.length : Int)) && decide (crcRaw wd p s xs = 0)

/-- A valid code has a width in words and a polynomial of so many bits, the last of which is 1. -/
theorem isCrc_get {wd p : Int} (h : isCrc wd p = true) : ∃ (W : Nat) (g : BitVec W), wd = (W : Int) ∧ 3 ≤ W ∧ W ≤ 24 ∧ p = (g.toNat : Int) ∧ g.getLsbD 0 = true := by
  unfold isCrc at h
  simp only [Bool.and_eq_true, decide_eq_true_eq] at h
  obtain ⟨⟨⟨⟨h1, h2⟩, h3⟩, h4⟩, h5⟩ := h
  obtain ⟨W, rfl⟩ := Int.eq_ofNat_of_zero_le (show 0 ≤ wd by omega)
  obtain ⟨P, rfl⟩ := Int.eq_ofNat_of_zero_le (show 0 ≤ p by omega)
  rw [Int.toNat_natCast] at h4
  have e : ((2 ^ W : Nat) : Int) = (2 : Int) ^ W := by simp
  have hlt : P < 2 ^ W := by omega
  refine ⟨W, BitVec.ofNat W P, rfl, by omega, by omega, ?_, ?_⟩
  · rw [BitVec.toNat_ofNat, Nat.mod_eq_of_lt hlt]
  · rw [BitVec.getLsbD_ofNat]
    have : P % 2 = 1 := by omega
    simp [this]; omega
theorem isCrc_put {W : Nat} {g : BitVec W} (h1 : 3 ≤ W) (h2 : W ≤ 24) (hg : g.getLsbD 0 = true) : isCrc (W : Int) (g.toNat : Int) = true := by
  have hl := reg_pow g
  have h0 : g.toNat % 2 = 1 := by
    have := hg
    rw [BitVec.getLsbD, Nat.testBit_zero, decide_eq_true_eq] at this
    exact this
  unfold isCrc
  simp only [Bool.and_eq_true, decide_eq_true_eq, Int.toNat_natCast]
  omega
theorem seedIn_get {W : Nat} {s : Int} (h : seedIn (W : Int) s = true) : ∃ r : BitVec W, s = (r.toNat : Int) := by
  unfold seedIn at h
  simp only [Bool.and_eq_true, decide_eq_true_eq, Int.toNat_natCast] at h
  obtain ⟨P, rfl⟩ := Int.eq_ofNat_of_zero_le h.1
  have e : ((2 ^ W : Nat) : Int) = (2 : Int) ^ W := by simp
  exact ⟨BitVec.ofNat W P, by rw [BitVec.toNat_ofNat, Nat.mod_eq_of_lt (by omega)]⟩
theorem seedIn_put {W : Nat} (r : BitVec W) : seedIn (W : Int) (r.toNat : Int) = true := by
  have hl := reg_pow r
  unfold seedIn
  simp only [Bool.and_eq_true, decide_eq_true_eq, Int.toNat_natCast]
  omega
theorem crcRaw_eq {W : Nat} (g r : BitVec W) (xs : List Int) : crcRaw (W : Int) (g.toNat : Int) (r.toNat : Int) xs = regOf g r xs := by
  unfold crcRaw
  simp
theorem crcTab_eq {W : Nat} (g : BitVec W) (k : Nat) : crcTab (W : Int) (g.toNat : Int) k = (List.range k).map (tabOf g) := by
  unfold crcTab
  simp
end Go.Proofs.Ytadmpfmpmpdbeaa
