/-
  Feeding a register with bits, as plain functions on bit vectors: linearity, the eight bits at once, the register 0 behind a list with its check number. No program is named here.
  What the functions of chapter 2 compute, as plain functions on numbers and lists, and the bridge between Go's operations on registers and bit vectors. No program is named here.
  Numbers and their bits: plain facts. No program is named here.
  A byte at once; a register and its own bits: plain facts. No program is named here.
  Which errors a code finds, as plain facts on bit vectors and lists. No program is named here.
  The first missed error of a weight of at most 3, as a plain search; its list of errors is missed. No program is named here.
-/
import Derived.Test.YtbdfnkhmnglpbaaBase
namespace Go.Proofs.Ytbdfnkhmnglpbaa
section

/-- A register that is fed with one bit. -/
def fb {w : Nat} (g r : BitVec w) (b : Bool) : BitVec w := (r <<< 1) ^^^ (if r.msb ^^ b then g else 0#w)
def fbs {w : Nat} (g r : BitVec w) (bs : List Bool) : BitVec w := bs.foldl (fb g) r
/-- The first k bits of a register, noughts behind them. -/
def tops {w : Nat} (r : BitVec w) : Nat → List Bool
  | 0 => []
  | k + 1 => r.msb :: tops (r <<< 1) k
/-- A list of noughts and ones as bools. -/
def bl (xs : List Int) : List Bool := xs.map fun x => decide (x = 1)

section
variable {w : Nat} {g r s : BitVec w}
theorem xor_mid (a b c d : BitVec w) : (a ^^^ b) ^^^ (c ^^^ d) = (a ^^^ c) ^^^ (b ^^^ d) := by
  rw [BitVec.xor_assoc, BitVec.xor_assoc, ← BitVec.xor_assoc b c d, BitVec.xor_comm b c, BitVec.xor_assoc c b d]
theorem fb_xor (b c : Bool) : fb g (r ^^^ s) (b ^^ c) = fb g r b ^^^ fb g s c := by
  unfold fb
  rw [BitVec.shiftLeft_xor_distrib, BitVec.msb_xor, xor_mid]
  congr 1
  cases r.msb <;> cases s.msb <;> cases b <;> cases c <;> simp
theorem fbs_xor : ∀ (bs cs : List Bool) (r s : BitVec w), bs.length = cs.length → fbs g (r ^^^ s) (List.zipWith (· ^^ ·) bs cs) = fbs g r bs ^^^ fbs g s cs
  | [], [], _, _, _ => rfl
  | b :: bs, c :: cs, r, s, h => by
    have := fbs_xor bs cs (fb g r b) (fb g s c) (by simpa using h)
    simpa [fbs, fb_xor] using this
  | [], _ :: _, _, _, h => by simp at h
  | _ :: _, [], _, _, h => by simp at h
theorem fb_zero : fb g 0#w false = 0#w := by simp [fb]
theorem fbs_zero (n : Nat) : fbs g 0#w (List.replicate n false) = 0#w := by
  induction n with
  | zero => rfl
  | succ n ih => simpa [fbs, List.replicate_succ, fb_zero] using ih
theorem zip_zero (bs : List Bool) : List.zipWith (· ^^ ·) bs (List.replicate bs.length false) = bs := by
  induction bs with
  | nil => rfl
  | cons b bs ih => simp [List.replicate_succ, ih]
theorem zip_self (bs : List Bool) : List.zipWith (· ^^ ·) bs bs = List.replicate bs.length false := by
  induction bs with
  | nil => rfl
  | cons b bs ih =>
    show (b ^^ b) :: _ = false :: List.replicate bs.length false
    rw [Bool.xor_self]
    exact congrArg _ ih
theorem fbs_split (bs : List Bool) : fbs g (r ^^^ s) bs = fbs g r bs ^^^ fbs g s (List.replicate bs.length false) := by
  have := fbs_xor (g := g) bs (List.replicate bs.length false) r s (by simp)
  rwa [zip_zero] at this
theorem fbs_append (bs cs : List Bool) : fbs g r (bs ++ cs) = fbs g (fbs g r bs) cs := by simp [fbs, List.foldl_append]
theorem fbs_snoc (bs : List Bool) (b : Bool) : fbs g r (bs ++ [b]) = fb g (fbs g r bs) b := by simp [fbs, List.foldl_append]
theorem tops_len (r : BitVec w) (k : Nat) : (tops r k).length = k := by
  induction k generalizing r with
  | zero => rfl
  | succ k ih => simp [tops, ih]
theorem tops_eq (r : BitVec w) (k : Nat) : tops r k = (List.range k).map r.getMsbD := by
  induction k generalizing r with
  | zero => rfl
  | succ k ih =>
    rw [tops, ih, List.range_succ_eq_map, List.map_cons, List.map_map]
    congr 1
    refine List.map_congr_left fun i _ => ?_
    simp [BitVec.getMsbD_shiftLeft]
/-- What a list of bits does to a register: as the list that differs by the register's first bits does to 0, beside the register moved up. -/
theorem fbs_tops (bs : List Bool) (r : BitVec w) : fbs g r bs = fbs g 0#w (List.zipWith (· ^^ ·) bs (tops r bs.length)) ^^^ (r <<< bs.length) := by
  induction bs generalizing r with
  | nil => simp [fbs]
  | cons b bs ih =>
    have e1 : fbs g r (b :: bs) = fbs g (fb g r b) bs := rfl
    have e2 : fb g r b = (r <<< 1) ^^^ (if r.msb ^^ b then g else 0#w) := rfl
    have e3 : fbs g 0#w (List.zipWith (· ^^ ·) (b :: bs) (tops r (b :: bs).length)) = fbs g (fb g 0#w (b ^^ r.msb)) (List.zipWith (· ^^ ·) bs (tops (r <<< 1) bs.length)) := rfl
    have e4 : fb g 0#w (b ^^ r.msb) = 0#w ^^^ (if r.msb ^^ b then g else 0#w) := by
      unfold fb
      rw [show ((0#w).msb ^^ (b ^^ r.msb)) = (r.msb ^^ b) from by simp [Bool.xor_comm]]
      simp
    have hl : (List.zipWith (· ^^ ·) bs (tops (r <<< 1) bs.length)).length = bs.length := by simp [tops_len]
    rw [e1, e2, fbs_split, ih, e3, e4, fbs_split, hl]
    rw [BitVec.xor_assoc, BitVec.xor_comm (r <<< 1 <<< bs.length), ← BitVec.xor_assoc, ← BitVec.shiftLeft_add, Nat.add_comm 1, List.length_cons]
theorem shift_all : r <<< w = 0#w := by
  apply BitVec.eq_of_getLsbD_eq
  intro i hi
  simp [hi]
/-- A register that is fed with its own bits is 0. -/
theorem fbs_own (bs : List Bool) (h : bs.length = w) (hb : bs = tops r w) : fbs g r bs = 0#w := by
  rw [fbs_tops, h, ← hb, zip_self, fbs_zero, shift_all, BitVec.xor_zero]
theorem fb_inj (hg : g.getLsbD 0 = true) (h : fb g r false = 0#w) : r = 0#w := by
  have hw : 0 < w := BitVec.lt_of_getLsbD hg
  unfold fb at h
  rw [Bool.xor_false] at h
  have hm : r.msb = false := by
    rcases hm : r.msb with _ | _
    · rfl
    · exfalso
      rw [hm] at h
      have h0 := congrArg (fun x => BitVec.getLsbD x 0) h
      simp [hg] at h0
  rw [hm] at h
  simp only [Bool.false_eq_true, if_false, BitVec.xor_zero] at h
  apply BitVec.eq_of_getLsbD_eq
  intro i hi
  rw [BitVec.getLsbD_zero]
  by_cases hl : i + 1 < w
  · have h1 := congrArg (fun x => BitVec.getLsbD x (i + 1)) h
    simpa [hl, hi] using h1
  · rw [BitVec.msb_eq_getLsbD_last] at hm
    rw [show i = w - 1 from by omega]; exact hm
theorem fbs_inj0 (hg : g.getLsbD 0 = true) (n : Nat) (h : fbs g r (List.replicate n false) = 0#w) : r = 0#w := by
  induction n generalizing r with
  | zero => exact h
  | succ n ih => exact fb_inj hg (ih h)
theorem fbs_inj (hg : g.getLsbD 0 = true) (bs : List Bool) (h : fbs g r bs = fbs g s bs) : r = s := by
  have h1 := fbs_xor (g := g) bs bs r s rfl
  rw [zip_self, h, BitVec.xor_self] at h1
  have h2 := fbs_inj0 hg _ h1
  have h3 : (r ^^^ s) ^^^ s = 0#w ^^^ s := by rw [h2]
  rwa [BitVec.xor_assoc, BitVec.xor_self, BitVec.xor_zero, BitVec.zero_xor] at h3
end
end

section

/-- The register behind a list of bits, as a number. -/
def regOf {W : Nat} (g r : BitVec W) (xs : List Int) : Int := ((fbs g r (bl xs)).toNat : Int)
/-- The table's entry for a byte. -/
def tabOf {W : Nat} (g : BitVec W) (i : Nat) : Int := regOf g 0#W (bitsOf i 8)

section
variable {W : Nat} {g r : BitVec W}
theorem reg_lt (hW : W ≤ 24) (x : BitVec W) : (0 : Int) ≤ (x.toNat : Int) ∧ (x.toNat : Int) ≤ 16777215 := by
  have h1 := x.isLt
  have h2 : (2 : Nat) ^ W ≤ 2 ^ 24 := Nat.pow_le_pow_right (by omega) hW
  omega
theorem reg_pow (x : BitVec W) : (x.toNat : Int) < 2 ^ W := by
  have h1 := x.isLt
  have e : ((2 ^ W : Nat) : Int) = (2 : Int) ^ W := by simp
  omega
theorem reg_top (h1 : 1 ≤ W) : (r.toNat : Int) / 2 ^ (W - 1) = if r.msb then 1 else 0 := by
  have hl := r.isLt
  have e : ((2 ^ (W - 1) : Nat) : Int) = (2 : Int) ^ (W - 1) := by simp
  have e2 : (2 : Nat) ^ W = 2 * 2 ^ (W - 1) := by rw [← Nat.pow_succ']; congr 1; omega
  rw [← e, ← Int.natCast_ediv, BitVec.msb_eq_decide]
  have hp : 0 < (2 : Nat) ^ (W - 1) := Nat.two_pow_pos _
  by_cases h : 2 ^ (W - 1) ≤ r.toNat
  · have : r.toNat / 2 ^ (W - 1) = 1 := by
      rw [Nat.div_eq_iff hp]; omega
    simp [h, this]
  · have : r.toNat / 2 ^ (W - 1) = 0 := Nat.div_eq_of_lt (by omega)
    simp [h, this]
theorem reg_shift : ((r <<< 1).toNat : Int) = (r.toNat : Int) * (2 : Int) % (2 : Int) ^ W := by
  rw [BitVec.toNat_shiftLeft, Nat.shiftLeft_eq]
  simp
theorem reg_mask (hW : W ≤ 24) (x : Nat) (hx : x < 9223372036854775808) : bits .and .i64 (x : Int) (2 ^ W - 1) = ((x % 2 ^ W : Nat) : Int) := by
  have h2 : (2 : Nat) ^ W ≤ 2 ^ 24 := Nat.pow_le_pow_right (by omega) hW
  have hp : 0 < (2 : Nat) ^ W := Nat.two_pow_pos _
  have e : (2 : Int) ^ W - 1 = ((2 ^ W - 1 : Nat) : Int) := by rw [Int.natCast_sub hp]; simp
  rw [e, and_nat _ _ hx (by omega), Nat.and_two_pow_sub_one_eq_mod]
theorem reg_double (hW : W ≤ 24) : bits .and .i64 ((r.toNat : Int) * 2) (2 ^ W - 1) = ((r <<< 1).toNat : Int) := by
  have := reg_lt hW r
  have e : (r.toNat : Int) * 2 = ((r.toNat * 2 : Nat) : Int) := by omega
  rw [e, reg_mask hW _ (by omega), BitVec.toNat_shiftLeft, Nat.shiftLeft_eq, Nat.pow_one]
theorem reg_rem (h1 : 1 ≤ W) : (r.toNat : Int) % (2 : Int) ^ (W - 1) * (2 : Int) = ((r <<< 1).toNat : Int) := by
  rw [reg_shift, show (2 : Int) ^ W = 2 ^ (W - 1) * 2 from by rw [← Int.pow_succ]; congr 1; omega]
  have h := Nat.mul_mod_mul_right 2 r.toNat (2 ^ (W - 1))
  exact_mod_cast h.symm
theorem reg_xor (hW : W ≤ 24) (x y : BitVec W) : bits .xor .i64 (x.toNat : Int) (y.toNat : Int) = ((x ^^^ y).toNat : Int) := by
  have := reg_lt hW x
  have := reg_lt hW y
  rw [xor_nat _ _ (by omega) (by omega), BitVec.toNat_xor]
theorem fb_t {b : Bool} (h : (r.msb ^^ b) = true) : fb g r b = (r <<< 1) ^^^ g := by unfold fb; rw [h]; rfl
theorem fb_f {b : Bool} (h : (r.msb ^^ b) = false) : fb g r b = r <<< 1 := by unfold fb; rw [h]; simp
theorem bl_snoc (xs : List Int) (x : Int) : bl (xs ++ [x]) = bl xs ++ [decide (x = 1)] := by simp [bl]
theorem bl_append (xs ys : List Int) : bl (xs ++ ys) = bl xs ++ bl ys := by simp [bl]
theorem bl_len (xs : List Int) : (bl xs).length = xs.length := by simp [bl]
theorem fbs_take (xs : List Int) (k : Nat) (hk : k < xs.length) : fbs g r (bl (xs.take (k + 1))) = fb g (fbs g r (bl (xs.take k))) (decide (xs.getD k 0 = 1)) := by
  rw [take_succ' xs k hk, bl_snoc, fbs_snoc]
/-- The test of a step, on the program's side. -/
theorem step_ne (h1 : 1 ≤ W) (B : Int) (hB : 0 ≤ B ∧ B ≤ 1) : ((r.toNat : Int) / 2 ^ (W - 1) != B) = (r.msb ^^ decide (B = 1)) := by
  rw [reg_top h1]
  have : B = 0 ∨ B = 1 := by omega
  rcases this with rfl | rfl <;> cases r.msb <;> rfl
/-- The test of a step, on the specification's side. -/
theorem step_xor (h1 : 1 ≤ W) (B : Int) (hB : 0 ≤ B ∧ B ≤ 1) : bits .xor .i64 ((r.toNat : Int) / 2 ^ (W - 1)) B = if (r.msb ^^ decide (B = 1)) then 1 else 0 := by
  rw [reg_top h1]
  have : B = 0 ∨ B = 1 := by omega
  rcases this with rfl | rfl <;> cases r.msb <;> decide
end

/-- A valid code. -/
def isCrc (wd p : Int) : Bool := decide (3 ≤ wd) && decide (wd ≤ 24) && decide (1 ≤ p) && decide (p ≤ 2 ^ wd.toNat - 1) && decide (p % 2 = 1)
def seedIn (wd s : Int) : Bool := decide (0 ≤ s) && decide (s ≤ 2 ^ wd.toNat - 1)
/-- The first errors in common: 1, 2 or 0. -/
def crcCode (wd p s : Int) : Int := if isCrc wd p = false then 1 else if seedIn wd s = false then 2 else 0
/-- The register behind a list, for a valid code. -/
def crcRaw (wd p s : Int) (xs : List Int) : Int := regOf (BitVec.ofNat wd.toNat p.toNat) (BitVec.ofNat wd.toNat s.toNat) xs
def crcOfBits (wd p s : Int) (xs : List Int) : Int × Int :=
  if crcCode wd p s ≠ 0 then (0, crcCode wd p s) else if isBits xs = false then (0, 3) else (crcRaw wd p s xs, 0)
def crcOfBytes (wd p s : Int) (xs : List Int) : Int × Int :=
  if crcCode wd p s ≠ 0 then (0, crcCode wd p s) else if isBytes xs = false then (0, 3) else (crcRaw wd p s (xs.flatMap (bitsOf · 8)), 0)
def crcTab (wd p : Int) (k : Nat) : List Int := (List.range k).map (tabOf (BitVec.ofNat wd.toNat p.toNat))
def crcTable (wd p : Int) : List Int × Int := if isCrc wd p = false then ([], 1) else (crcTab wd p 256, 0)
def appendCrc (wd p s : Int) (xs : List Int) : List Int × Int :=
  if (crcOfBits wd p s xs).2 ≠ 0 then ([], (crcOfBits wd p s xs).2) else if 8192 < (xs.length : Int) + wd then ([], 3) else (xs ++ bitsOf (crcOfBits wd p s xs).1 wd.toNat, 0)
def hasCrc (wd p s : Int) (xs : List Int) : Bool := decide (crcCode wd p s = 0) && isBits xs && decide (wd ≤ (xs.length : Int)) && decide (crcRaw wd p s xs = 0)

/-- A valid code has a width in words and a polynomial of so many bits, the last of which is 1. -/
theorem isCrc_get {wd p : Int} (h : isCrc wd p = true) : ∃ (W : Nat) (g : BitVec W), wd = (W : Int) ∧ 3 ≤ W ∧ W ≤ 24 ∧ p = (g.toNat : Int) ∧ g.getLsbD 0 = true := by
  unfold isCrc at h
  simp only [Bool.and_eq_true, decide_eq_true_eq] at h
  obtain ⟨⟨⟨⟨h1, h2⟩, h3⟩, h4⟩, h5⟩ := h
  obtain ⟨W, rfl⟩ := Int.eq_ofNat_of_zero_le (show 0 ≤ wd by omega)
  obtain ⟨P, rfl⟩ := Int.eq_ofNat_of_zero_le (show 0 ≤ p by omega)
  rw [Int.toNat_natCast] at h4
  have e : ((2 ^ W : Nat) : Int) = (2 : Int) ^ W := by simp
  have hlt : P < 2 ^ W := by omega
  refine ⟨W, BitVec.ofNat W P, rfl, by omega, by omega, ?_, ?_⟩
  · rw [BitVec.toNat_ofNat, Nat.mod_eq_of_lt hlt]
  · rw [BitVec.getLsbD_ofNat]
    have : P % 2 = 1 := by omega
    simp [this]; omega
theorem isCrc_put {W : Nat} {g : BitVec W} (h1 : 3 ≤ W) (h2 : W ≤ 24) (hg : g.getLsbD 0 = true) : isCrc (W : Int) (g.toNat : Int) = true := by
  have hl := reg_pow g
  have h0 : g.toNat % 2 = 1 := by
    have := hg
    rw [BitVec.getLsbD, Nat.testBit_zero, decide_eq_true_eq] at this
    exact this
  unfold isCrc
  simp only [Bool.and_eq_true, decide_eq_true_eq, Int.toNat_natCast]
  omega
theorem seedIn_get {W : Nat} {s : Int} (h : seedIn (W : Int) s = true) : ∃ r : BitVec W, s = (r.toNat : Int) := by
  unfold seedIn at h
  simp only [Bool.and_eq_true, decide_eq_true_eq, Int.toNat_natCast] at h
  obtain ⟨P, rfl⟩ := Int.eq_ofNat_of_zero_le h.1
  have e : ((2 ^ W : Nat) : Int) = (2 : Int) ^ W := by simp
  exact ⟨BitVec.ofNat W P, by rw [BitVec.toNat_ofNat, Nat.mod_eq_of_lt (by omega)]⟩
theorem seedIn_put {W : Nat} (r : BitVec W) : seedIn (W : Int) (r.toNat : Int) = true := by
  have hl := reg_pow r
  unfold seedIn
  simp only [Bool.and_eq_true, decide_eq_true_eq, Int.toNat_natCast]
  omega
theorem crcRaw_eq {W : Nat} (g r : BitVec W) (xs : List Int) : crcRaw (W : Int) (g.toNat : Int) (r.toNat : Int) xs = regOf g r xs := by
  unfold crcRaw
  simp
theorem crcTab_eq {W : Nat} (g : BitVec W) (k : Nat) : crcTab (W : Int) (g.toNat : Int) k = (List.range k).map (tabOf g) := by
  unfold crcTab
  simp
end

section
theorem pow_pos' (k : Nat) : (0 : Int) < 2 ^ k := Int.pow_pos (by omega)
theorem numOf_top (v : Int) (w j : Nat) (h0 : 0 ≤ v) (h1 : v < 2 ^ w) (hj : j ≤ w) : numOf (topBits v w j) = v / 2 ^ (w - j) := by
  induction j with
  | zero => rw [Nat.sub_zero, Int.ediv_eq_zero_of_lt h0 h1]; rfl
  | succ j ih =>
    rw [topBits_succ, numOf_snoc, ih (by omega)]
    unfold bitAt
    rw [show w - j = (w - 1 - j) + 1 from by omega, Int.pow_succ, ← Int.ediv_ediv_of_nonneg (by have := pow_pos' (w - 1 - j); omega), show w - (j + 1) = w - 1 - j from by omega]
    omega
theorem numOf_bitsOf (v : Int) (w : Nat) (h0 : 0 ≤ v) (h1 : v < 2 ^ w) : numOf (bitsOf v w) = v := by
  unfold bitsOf
  rw [numOf_top v w w h0 h1 (Nat.le_refl _), Nat.sub_self]; simp
theorem bitsOf_bits (v : Int) (w : Nat) : ∀ x ∈ bitsOf v w, 0 ≤ x ∧ x ≤ 1 := by
  intro x hx
  unfold bitsOf topBits at hx
  obtain ⟨i, _, rfl⟩ := List.mem_map.1 hx
  unfold bitAt
  omega
theorem bitsOf_snoc (m b : Int) (n : Nat) (hb0 : 0 ≤ b) (hb1 : b ≤ 1) : bitsOf (2 * m + b) (n + 1) = bitsOf m n ++ [b] := by
  unfold bitsOf
  rw [topBits_succ]
  have h1 : topBits (2 * m + b) (n + 1) n = topBits m n n := by
    unfold topBits
    refine List.map_congr_left fun i hi => ?_
    have hi := List.mem_range.1 hi
    unfold bitAt
    rw [show n + 1 - 1 - i = (n - 1 - i) + 1 from by omega, Int.pow_succ, Int.mul_comm (2 ^ (n - 1 - i)) 2, ← Int.ediv_ediv_of_nonneg (by omega), show (2 * m + b) / 2 = m from by omega]
  rw [h1]
  congr 1
  unfold bitAt
  rw [show n + 1 - 1 - n = 0 from by omega]
  simp; omega
theorem bitsOf_numOf (n : Nat) : ∀ ys : List Int, ys.length = n → (∀ x ∈ ys, 0 ≤ x ∧ x ≤ 1) → bitsOf (numOf ys) n = ys := by
  induction n with
  | zero => intro ys h _; have := List.length_eq_zero_iff.1 h; subst this; rfl
  | succ n ih =>
    intro ys h hb
    have hne : ys ≠ [] := fun e => by subst e; simp at h
    have e := List.dropLast_concat_getLast hne
    have hl : ys.dropLast.length = n := by rw [List.length_dropLast, h]; omega
    have hb1 := hb _ (List.getLast_mem hne)
    rw [← e, numOf_snoc, bitsOf_snoc _ _ _ hb1.1 hb1.2, ih _ hl fun x hx => hb x (by rw [← e]; exact List.mem_append_left _ hx)]
end

section

theorem bl_bitsOf (n w : Nat) : bl (bitsOf (n : Int) w) = (List.range w).map fun i => n.testBit (w - 1 - i) := by
  unfold bl bitsOf topBits
  rw [List.map_map]
  refine List.map_congr_left fun i _ => ?_
  simp only [Function.comp]
  unfold bitAt
  rw [Nat.testBit_eq_decide_div_mod_eq]
  have e : (n : Int) / 2 ^ (w - 1 - i) % 2 = ((n / 2 ^ (w - 1 - i) % 2 : Nat) : Int) := by simp
  rw [e, decide_eq_decide]
  omega
section
variable {W : Nat} {g r : BitVec W}
theorem tops_own (n : Nat) (h : n < 2 ^ W) : bl (bitsOf (n : Int) W) = tops (BitVec.ofNat W n) W := by
  rw [bl_bitsOf, tops_eq]
  refine List.map_congr_left fun i hi => ?_
  have hi := List.mem_range.1 hi
  rw [BitVec.getMsbD_eq_getLsbD, BitVec.getLsbD, BitVec.toNat_ofNat, Nat.mod_eq_of_lt h]
  simp [hi]
theorem zip_tops (v : Nat) : List.zipWith (· ^^ ·) (bl (bitsOf (v : Int) 8)) (tops r 8) = bl (bitsOf ((r.toNat * 256 / 2 ^ W ^^^ v : Nat) : Int) 8) := by
  rw [bl_bitsOf, bl_bitsOf, tops_eq, List.zipWith_map_left, List.zipWith_map_right, List.zipWith_self]
  refine List.map_congr_left fun i hi => ?_
  have hi := List.mem_range.1 hi
  rw [Nat.testBit_xor, Nat.testBit_div_two_pow, show r.toNat * 256 = r.toNat <<< 8 from by rw [Nat.shiftLeft_eq], Nat.testBit_shiftLeft, BitVec.getMsbD_eq_getLsbD, BitVec.getLsbD, Bool.xor_comm]
  congr 2
  · rw [decide_eq_decide]; omega
  · congr 1; omega
/-- What a byte does to a register. -/
theorem byte_step (v : Nat) : fbs g r (bl (bitsOf (v : Int) 8)) = fbs g 0#W (bl (bitsOf ((r.toNat * 256 / 2 ^ W ^^^ v : Nat) : Int) 8)) ^^^ (r <<< 8) := by
  have h := fbs_tops (g := g) (bl (bitsOf (v : Int) 8)) r
  rw [show (bl (bitsOf (v : Int) 8)).length = 8 from by rw [bl_len, bitsOf_len], zip_tops v] at h
  exact h
theorem byte_index (v : Nat) (hv : v < 256) (r : BitVec W) : (r.toNat * 256 / 2 ^ W ^^^ v) < 256 := by
  have hr := r.isLt
  have hp : 0 < (2 : Nat) ^ W := Nat.two_pow_pos _
  have h1 : r.toNat * 256 / 2 ^ W < 2 ^ 8 := by
    rw [Nat.div_lt_iff_lt_mul hp]; omega
  exact Nat.xor_lt_two_pow (n := 8) h1 (by omega)
theorem byte_xor (v : Nat) (hv : v < 256) (hW : W ≤ 24) : bits .xor .i64 ((r.toNat : Int) * 256 / (2 : Int) ^ W) (v : Int) = ((r.toNat * 256 / 2 ^ W ^^^ v : Nat) : Int) := by
  have hr := reg_lt hW r
  have hd : r.toNat * 256 / 2 ^ W ≤ r.toNat * 256 := Nat.div_le_self _ _
  have e : (r.toNat : Int) * 256 / (2 : Int) ^ W = ((r.toNat * 256 / 2 ^ W : Nat) : Int) := by simp
  rw [e, xor_nat _ _ (by omega) (by omega)]
theorem byte_low (hW : W ≤ 24) : bits .and .i64 ((r.toNat : Int) * 256) ((2 : Int) ^ W - 1) = ((r <<< 8).toNat : Int) := by
  have := reg_lt hW r
  have e : (r.toNat : Int) * 256 = ((r.toNat * 256 : Nat) : Int) := by omega
  rw [e, reg_mask hW _ (by omega), BitVec.toNat_shiftLeft, Nat.shiftLeft_eq]
/-- A register that is fed with so many bits as it has is 0 exactly if it is their number. -/
theorem fbs_zero_iff (hg : g.getLsbD 0 = true) (ys : List Int) (hl : ys.length = W) (hb : ∀ x ∈ ys, 0 ≤ x ∧ x ≤ 1) : fbs g r (bl ys) = 0#W ↔ (r.toNat : Int) = numOf ys := by
  have hbd := numOf_bound ys hb
  rw [hl] at hbd
  have e2 : ((2 ^ W : Nat) : Int) = (2 : Int) ^ W := by simp
  have hlt : (numOf ys).toNat < 2 ^ W := by omega
  have hown : fbs g (BitVec.ofNat W (numOf ys).toNat) (bl ys) = 0#W := by
    refine fbs_own _ (by rw [bl_len, hl]) ?_
    rw [← tops_own _ hlt, show (((numOf ys).toNat : Nat) : Int) = numOf ys from by omega, bitsOf_numOf W ys hl hb]
  constructor
  · intro h
    have := fbs_inj hg (bl ys) (h.trans hown.symm)
    rw [this, BitVec.toNat_ofNat, Nat.mod_eq_of_lt hlt]; omega
  · intro h
    have : r = BitVec.ofNat W (numOf ys).toNat := by
      apply BitVec.eq_of_toNat_eq
      rw [BitVec.toNat_ofNat, Nat.mod_eq_of_lt hlt]; omega
    rw [this]; exact hown
end
end

section

/-- The exclusive or of a list of bools. -/
def px (bs : List Bool) : Bool := bs.foldr (· ^^ ·) false
theorem px_append (a b : List Bool) : px (a ++ b) = (px a ^^ px b) := by
  induction a with
  | nil => simp [px]
  | cons x a ih =>
    show (x ^^ px (a ++ b)) = ((x ^^ px a) ^^ px b)
    rw [ih, Bool.xor_assoc]
theorem px_zip : ∀ a b : List Bool, a.length = b.length → px (List.zipWith (· ^^ ·) a b) = (px a ^^ px b)
  | [], [], _ => rfl
  | x :: a, y :: b, h => by
    show ((x ^^ y) ^^ px (List.zipWith (· ^^ ·) a b)) = ((x ^^ px a) ^^ (y ^^ px b))
    rw [px_zip a b (by simpa using h)]
    cases x <;> cases y <;> cases px a <;> cases px b <;> rfl
  | [], _ :: _, h => by simp at h
  | _ :: _, [], h => by simp at h
section
variable {W : Nat} {g r : BitVec W}
theorem tops_xor (x y : BitVec W) (k : Nat) : tops (x ^^^ y) k = List.zipWith (· ^^ ·) (tops x k) (tops y k) := by
  induction k generalizing x y with
  | zero => rfl
  | succ k ih =>
    show (x ^^^ y).msb :: tops ((x ^^^ y) <<< 1) k = (x.msb ^^ y.msb) :: List.zipWith (· ^^ ·) (tops (x <<< 1) k) (tops (y <<< 1) k)
    rw [BitVec.msb_xor, BitVec.shiftLeft_xor_distrib, ih]
theorem tops_snoc (x : BitVec W) (k : Nat) : tops x (k + 1) = tops x k ++ [x.getMsbD k] := by
  rw [tops_eq, tops_eq, List.range_succ, List.map_append]; rfl
/-- The exclusive or of a register's bits. -/
def par (r : BitVec W) : Bool := px (tops r W)
theorem par_xor (x y : BitVec W) : par (x ^^^ y) = (par x ^^ par y) := by
  unfold par
  rw [tops_xor, px_zip _ _ (by rw [tops_len, tops_len])]
theorem par_shift (x : BitVec W) : par (x <<< 1) = (par x ^^ x.msb) := by
  have h1 : px (tops x (W + 1)) = (x.msb ^^ px (tops (x <<< 1) W)) := rfl
  have h2 : px (tops x (W + 1)) = px (tops x W) := by
    rw [tops_snoc, px_append]
    simp [px]
  unfold par
  rw [h2] at h1
  rw [h1]
  cases x.msb <;> cases px (tops (x <<< 1) W) <;> rfl
theorem par_zero : par (0#W) = false := by
  have h := par_xor (0#W) (0#W)
  rw [BitVec.xor_self] at h
  cases hp : par (0#W) <;> simp_all
/-- Where the polynomial's bits add up to 1, the register's bits and those that are fed add up. -/
theorem par_fb (hg : par g = true) (b : Bool) : par (fb g r b) = (par r ^^ b) := by
  unfold fb
  rw [par_xor, par_shift]
  cases hm : r.msb <;> cases b <;> simp [par_zero, hg]
theorem par_fbs (hg : par g = true) (bs : List Bool) (r : BitVec W) : par (fbs g r bs) = (par r ^^ px bs) := by
  induction bs generalizing r with
  | nil => simp [fbs, px]
  | cons b bs ih =>
    have e : fbs g r (b :: bs) = fbs g (fb g r b) bs := rfl
    have e2 : px (b :: bs) = (b ^^ px bs) := rfl
    rw [e, ih, par_fb hg, e2, Bool.xor_assoc]
theorem fb_true : fb g r true = fb g r false ^^^ g := by
  have h := fb_xor (g := g) (r := r) (s := 0#W) false true
  have h2 : fb g 0#W true = g := by simp [fb]
  rw [BitVec.xor_zero, h2] at h
  simpa using h
theorem fb_zero_true : fb g 0#W true = g := by simp [fb]
end

/-- The number of ones of a list. -/
def weight (xs : List Int) : Int := xs.foldl (· + ·) 0
theorem weight_from (xs : List Int) (a : Int) : xs.foldl (· + ·) a = a + weight xs := by
  unfold weight
  induction xs generalizing a with
  | nil => simp
  | cons x xs ih => rw [List.foldl_cons, List.foldl_cons, ih, ih (0 + x)]; omega
theorem weight_nil : weight [] = 0 := rfl
theorem weight_cons (x : Int) (xs : List Int) : weight (x :: xs) = x + weight xs := by
  show (x :: xs).foldl (· + ·) 0 = _
  rw [List.foldl_cons, weight_from]; omega
theorem weight_append (xs ys : List Int) : weight (xs ++ ys) = weight xs + weight ys := by
  show (xs ++ ys).foldl (· + ·) 0 = _
  rw [List.foldl_append, weight_from]; rfl
theorem weight_take (xs : List Int) (k : Nat) (hk : k < xs.length) : weight (xs.take (k + 1)) = weight (xs.take k) + xs.getD k 0 := by
  rw [take_succ' xs k hk, weight_append, weight_cons, weight_nil]; omega
theorem weight_bound (xs : List Int) (h : ∀ x ∈ xs, 0 ≤ x ∧ x ≤ 1) : 0 ≤ weight xs ∧ weight xs ≤ xs.length := by
  induction xs with
  | nil => exact ⟨by rw [weight_nil]; omega, by rw [weight_nil]; simp⟩
  | cons x xs ih =>
    have h1 := h x (by simp)
    have h2 := ih fun y hy => h y (by simp [hy])
    rw [weight_cons, List.length_cons]
    omega
theorem weight_zeros (n : Nat) : weight (List.replicate n 0) = 0 := by
  induction n with
  | zero => rfl
  | succ n ih => rw [List.replicate_succ, weight_cons, ih]; rfl
theorem weight_zero {xs : List Int} (h : ∀ x ∈ xs, 0 ≤ x ∧ x ≤ 1) (hw : weight xs = 0) : xs = List.replicate xs.length 0 := by
  induction xs with
  | nil => rfl
  | cons x xs ih =>
    have h1 := h x (by simp)
    have h2 := weight_bound xs fun y hy => h y (by simp [hy])
    rw [weight_cons] at hw
    rw [List.length_cons, List.replicate_succ, ← ih (fun y hy => h y (by simp [hy])) (by omega)]
    congr 1; omega
theorem px_bl (xs : List Int) (h : ∀ x ∈ xs, 0 ≤ x ∧ x ≤ 1) : px (bl xs) = decide (weight xs % 2 = 1) := by
  induction xs with
  | nil => rfl
  | cons x xs ih =>
    have h1 := h x (by simp)
    have e : px (bl (x :: xs)) = (decide (x = 1) ^^ px (bl xs)) := rfl
    rw [e, ih fun y hy => h y (by simp [hy]), weight_cons]
    have hx : x = 0 ∨ x = 1 := by omega
    rcases hx with rfl | rfl
    · simp
    · by_cases hw : weight xs % 2 = 1
      · rw [decide_eq_true hw, show decide ((1 + weight xs) % 2 = 1) = false from decide_eq_false (by omega)]; rfl
      · rw [decide_eq_false hw, show decide ((1 + weight xs) % 2 = 1) = true from decide_eq_true (by omega)]; rfl
theorem bl_zeros (n : Nat) : bl (List.replicate n 0) = List.replicate n false := by simp [bl]

section
variable {W : Nat} {g r : BitVec W}
/-- An error of odd weight is found where the polynomial's bits are odd in number. -/
theorem odd_found {xs : List Int} (hb : ∀ x ∈ xs, 0 ≤ x ∧ x ≤ 1) (hg : weight (bitsOf (g.toNat : Int) W) % 2 = 1) (hw : weight xs % 2 = 1) : fbs g 0#W (bl xs) ≠ 0#W := by
  intro h
  have hpar : par g = true := by
    unfold par
    have e := tops_own (W := W) g.toNat g.isLt
    rw [show BitVec.ofNat W g.toNat = g from by simp] at e
    rw [← e, px_bl _ (bitsOf_bits _ _), decide_eq_true hg]
  have h1 := par_fbs hpar (bl xs) (0#W)
  rw [h, par_zero, px_bl xs hb, decide_eq_true hw] at h1
  simp at h1
/-- Noughts behind a list do not hide its syndrome, nor do noughts ahead of it make one. -/
theorem synd_pad (hg : g.getLsbD 0 = true) (a b : Nat) (xs : List Int) : fbs g 0#W (bl (List.replicate a 0 ++ xs ++ List.replicate b 0)) = 0#W ↔ fbs g 0#W (bl xs) = 0#W := by
  rw [bl_append, bl_append, fbs_append, fbs_append, bl_zeros, bl_zeros, fbs_zero]
  exact ⟨fun h => fbs_inj0 hg _ h, fun h => by rw [h, fbs_zero]⟩
/-- A list of at most so many bits as the code has is not missed, unless it is all 0. -/
theorem short_found (hg : g.getLsbD 0 = true) {xs : List Int} (hb : ∀ x ∈ xs, 0 ≤ x ∧ x ≤ 1) (hl : xs.length ≤ W) (hw : 0 < weight xs) : fbs g 0#W (bl xs) ≠ 0#W := by
  intro h
  have h1 := (synd_pad hg (W - xs.length) 0 xs).2 h
  rw [show List.replicate 0 (0 : Int) = [] from rfl, List.append_nil] at h1
  have hl2 : (List.replicate (W - xs.length) 0 ++ xs).length = W := by rw [List.length_append, List.length_replicate]; omega
  have hb2 : ∀ x ∈ List.replicate (W - xs.length) 0 ++ xs, (0 : Int) ≤ x ∧ x ≤ 1 := by
    intro x hx
    rcases List.mem_append.1 hx with hx | hx
    · rw [List.eq_of_mem_replicate hx]; omega
    · exact hb x hx
  have h2 := (fbs_zero_iff (r := 0#W) hg _ hl2 hb2).1 h1
  have h3 : numOf (List.replicate (W - xs.length) 0 ++ xs) = 0 := by rw [← h2]; simp
  have h4 := bitsOf_numOf W _ hl2 hb2
  rw [h3] at h4
  have h5 : weight (bitsOf 0 W) = 0 := by
    have e : bitsOf 0 W = List.replicate W 0 := by
      unfold bitsOf topBits
      refine List.eq_replicate_iff.2 ⟨by simp, fun x hx => ?_⟩
      obtain ⟨i, _, rfl⟩ := List.mem_map.1 hx
      unfold bitAt
      simp
    rw [e, weight_zeros]
  rw [h4, weight_append, weight_zeros] at h5
  omega
/-- The syndrome of a one with n noughts behind it. -/
def tail (g : BitVec W) (n : Nat) : BitVec W := fbs g g (List.replicate n false)
theorem tail_zero : tail g 0 = g := rfl
theorem tail_succ (n : Nat) : tail g (n + 1) = fb g (tail g n) false := by
  unfold tail
  rw [List.replicate_succ', fbs_snoc]
/-- Two ones at the distance n + 1. -/
theorem pair_synd (n : Nat) : fbs g 0#W (bl ([1] ++ List.replicate n 0 ++ [1])) = tail g (n + 1) ^^^ g := by
  rw [bl_append, bl_append, fbs_append, fbs_append, bl_zeros]
  have e1 : fbs g 0#W (bl [1]) = g := fb_zero_true
  have e2 : ∀ r : BitVec W, fbs g r (bl [1]) = fb g r true := fun _ => rfl
  rw [e1, e2, fb_true, tail_succ]; rfl
theorem pair_missed (n : Nat) : fbs g 0#W (bl ([1] ++ List.replicate n 0 ++ [1])) = 0#W ↔ tail g (n + 1) = g := by
  rw [pair_synd]
  constructor
  · intro h
    have := congrArg (· ^^^ g) h
    simpa [BitVec.xor_assoc] using this
  · intro h; rw [h, BitVec.xor_self]
/-- The least n from k on, of f tries, at which the tail is the polynomial again; k + f if there is none. -/
def ordFrom (g : BitVec W) : Nat → Nat → Nat
  | 0, k => k
  | f + 1, k => if tail g k = g then k else ordFrom g f (k + 1)
theorem ord_le (f k : Nat) : k ≤ ordFrom g f k ∧ ordFrom g f k ≤ k + f := by
  induction f generalizing k with
  | zero => exact ⟨Nat.le_refl _, Nat.le_refl _⟩
  | succ f ih =>
    unfold ordFrom
    split
    · omega
    · have := ih (k + 1); omega
theorem ord_before (f k m : Nat) (h1 : k ≤ m) (h2 : m < ordFrom g f k) : tail g m ≠ g := by
  induction f generalizing k with
  | zero => unfold ordFrom at h2; omega
  | succ f ih =>
    unfold ordFrom at h2
    split at h2
    · omega
    · rename_i hk
      by_cases hm : m = k
      · rw [hm]; exact hk
      · exact ih (k + 1) (by omega) h2
theorem ord_at (f k : Nat) (h : ordFrom g f k < k + f) : tail g (ordFrom g f k) = g := by
  induction f generalizing k with
  | zero => unfold ordFrom at h; omega
  | succ f ih =>
    unfold ordFrom at h ⊢
    split
    · assumption
    · rename_i hk
      rw [if_neg hk] at h
      exact ih (k + 1) (by omega)
theorem ord_hit (f k n : Nat) (h1 : k ≤ n) (h2 : n < k + f) (hb : ∀ m, k ≤ m → m < n → tail g m ≠ g) (hn : tail g n = g) : ordFrom g f k = n := by
  have hl := ord_le (g := g) f k
  rcases Nat.lt_trichotomy (ordFrom g f k) n with h | h | h
  · exact absurd (ord_at f k (by omega)) (hb _ hl.1 h)
  · exact h
  · exact absurd hn (ord_before f k n h1 h)
theorem ord_none (f k : Nat) (hb : ∀ m, k ≤ m → m < k + f → tail g m ≠ g) : ordFrom g f k = k + f := by
  have hl := ord_le (g := g) f k
  by_cases h : ordFrom g f k < k + f
  · exact absurd (ord_at f k h) (hb _ hl.1 h)
  · omega
/-- The order of a code, or 5001. -/
def order (g : BitVec W) : Nat := ordFrom g 5000 1
end

/-- The first one and the length of the burst within the first k numbers of a list. -/
def burstTo (xs : List Int) : Nat → Nat × Nat
  | 0 => (0, 0)
  | k + 1 =>
    let b := burstTo xs k
    if xs.getD k 0 = 0 then b else if b.2 = 0 then (k, 1) else (b.1, k - b.1 + 1)
def burst (xs : List Int) : Nat × Nat := burstTo xs xs.length
/-- What the burst within the first k numbers is. -/
def BurstOk (xs : List Int) (k f l : Nat) : Prop :=
  (l = 0 ∧ f = 0 ∧ ∀ i, i < k → xs.getD i 0 = 0) ∨ (0 < l ∧ f + l ≤ k ∧ xs.getD f 0 ≠ 0 ∧ xs.getD (f + l - 1) 0 ≠ 0 ∧ ∀ i, i < k → i < f ∨ f + l ≤ i → xs.getD i 0 = 0)
theorem burst_ok (xs : List Int) (k : Nat) : BurstOk xs k (burstTo xs k).1 (burstTo xs k).2 := by
  induction k with
  | zero => exact .inl ⟨rfl, rfl, fun i h => absurd h (by omega)⟩
  | succ k ih =>
    unfold burstTo
    by_cases hx : xs.getD k 0 = 0
    · simp only [hx, if_true]
      rcases ih with ⟨h1, h2, h3⟩ | ⟨h1, h2, h3, h4, h5⟩
      · refine .inl ⟨h1, h2, fun i hi => ?_⟩
        by_cases hk : i = k
        · rw [hk]; exact hx
        · exact h3 i (by omega)
      · refine .inr ⟨h1, by omega, h3, h4, fun i hi hh => ?_⟩
        by_cases hk : i = k
        · rw [hk]; exact hx
        · exact h5 i (by omega) hh
    · simp only [hx, if_false]
      rcases ih with ⟨h1, h2, h3⟩ | ⟨h1, h2, h3, h4, h5⟩
      · rw [if_pos h1]
        refine .inr ⟨by simp, Nat.le_refl _, hx, by simpa using hx, fun i hi hh => ?_⟩
        exact h3 i (by omega)
      · rw [if_neg (by omega)]
        refine .inr ⟨by simp, by simp only; omega, h3, ?_, fun i hi hh => ?_⟩
        · simp only
          rw [show (burstTo xs k).1 + (k - (burstTo xs k).1 + 1) - 1 = k from by omega]; exact hx
        · simp only at hh
          exact h5 i (by omega) (by omega)
theorem getD_out {xs : List Int} {i : Nat} (h : xs.length ≤ i) : xs.getD i 0 = 0 := by simp [List.getD, List.getElem?_eq_none h]
/-- A list with a one is noughts, its burst, noughts. -/
theorem burst_parts (xs : List Int) (h : 0 < (burst xs).2) : (burst xs).1 + (burst xs).2 ≤ xs.length ∧
    xs = List.replicate (burst xs).1 0 ++ (xs.drop (burst xs).1).take (burst xs).2 ++ List.replicate (xs.length - ((burst xs).1 + (burst xs).2)) 0 := by
  have hb := burst_ok xs xs.length
  change BurstOk xs xs.length (burst xs).1 (burst xs).2 at hb
  generalize (burst xs).1 = f at hb h ⊢
  generalize (burst xs).2 = l at hb h ⊢
  rcases hb with ⟨h1, -, -⟩ | ⟨h1, h2, -, -, h5⟩
  · omega
  · refine ⟨h2, ?_⟩
    apply List.ext_getElem
    · simp only [List.length_append, List.length_replicate, List.length_take, List.length_drop]; omega
    · intro i hi1 hi2
      have hg : ∀ j (hj : j < xs.length), xs.getD j 0 = xs[j] := fun j hj => by simp [List.getD, List.getElem?_eq_getElem hj]
      by_cases c1 : i < f
      · rw [← hg i hi1, h5 i hi1 (.inl c1)]
        rw [List.getElem_append_left (by simp; omega), List.getElem_append_left (by simpa using c1)]
        simp
      · by_cases c2 : i < f + l
        · rw [List.getElem_append_left (by simp; omega), List.getElem_append_right (by simpa using c1)]
          simp only [List.getElem_take, List.getElem_drop, List.length_replicate]
          congr 1; omega
        · rw [← hg i hi1, h5 i hi1 (.inr (by omega))]
          rw [List.getElem_append_right (by simp; omega)]
          simp
/-- A burst of weight 2 has its ones at both ends alone. -/
theorem burst_two {xs : List Int} (hb : ∀ x ∈ xs, 0 ≤ x ∧ x ≤ 1) (hw : weight xs = 2) (h : 0 < (burst xs).2) : 2 ≤ (burst xs).2 ∧ (xs.drop (burst xs).1).take (burst xs).2 = [1] ++ List.replicate ((burst xs).2 - 2) 0 ++ [1] := by
  have hp := burst_parts xs h
  have hbo := burst_ok xs xs.length
  change BurstOk xs xs.length (burst xs).1 (burst xs).2 at hbo
  generalize (burst xs).1 = f at hbo hp h ⊢
  generalize (burst xs).2 = l at hbo hp h ⊢
  obtain ⟨hfl, hp⟩ := hp
  rcases hbo with ⟨h1, -, -⟩ | ⟨-, -, h3, h4, -⟩
  · omega
  · have hwm : weight ((xs.drop f).take l) = 2 := by
      rw [hp, weight_append, weight_append, weight_zeros, weight_zeros] at hw; omega
    have hml : ((xs.drop f).take l).length = l := by rw [List.length_take, List.length_drop]; omega
    have hmb : ∀ x ∈ (xs.drop f).take l, 0 ≤ x ∧ x ≤ 1 := fun x hx => hb x (List.mem_of_mem_drop (List.mem_of_mem_take hx))
    have hmg : ∀ j, j < l → ((xs.drop f).take l).getD j 0 = xs.getD (f + j) 0 := fun j hj => by simp [List.getD, hj, List.getElem?_drop]
    have hm0 : ((xs.drop f).take l).getD 0 0 = 1 := by
      have e := hmg 0 h
      rw [Nat.add_zero] at e
      have := hmb _ (getD_mem' (xs := (xs.drop f).take l) (k := 0) (by omega))
      rw [e] at this ⊢
      omega
    have hml1 : ((xs.drop f).take l).getD (l - 1) 0 = 1 := by
      have e := hmg (l - 1) (by omega)
      rw [show f + (l - 1) = f + l - 1 from by omega] at e
      have := hmb _ (getD_mem' (xs := (xs.drop f).take l) (k := l - 1) (by omega))
      rw [e] at this ⊢
      omega
    generalize (xs.drop f).take l = ms at hwm hml hmb hm0 hml1 ⊢
    clear hmg
    match ms, hml with
    | [], hml => simp at hml; omega
    | [a], hml =>
      rw [weight_cons, weight_nil] at hwm
      have := hmb a (by simp)
      omega
    | a :: b :: rest, hml =>
      have hl2 : 2 ≤ l := by rw [← hml]; simp
      refine ⟨hl2, ?_⟩
      have ha : a = 1 := by simpa using hm0
      subst ha
      have hne : (b :: rest) ≠ [] := by simp
      have e := List.dropLast_concat_getLast hne
      have hlast : (b :: rest).getLast hne = 1 := by
        have e2 : (1 :: b :: rest).getD (l - 1) 0 = (b :: rest).getLast hne := by
          rw [List.getLast_eq_getElem, show l - 1 = (b :: rest).length - 1 + 1 from by simp at hml ⊢; omega, List.getD_cons_succ, List.getD, List.getElem?_eq_getElem (by simp)]
          rfl
        rw [← e2]; exact hml1
      rw [hlast] at e
      rw [weight_cons, ← e, weight_append, weight_cons, weight_nil] at hwm
      have hdl : (b :: rest).dropLast.length = l - 2 := by rw [List.length_dropLast]; simp at hml ⊢; omega
      have hz := weight_zero (xs := (b :: rest).dropLast) (fun x hx => hmb x (List.mem_cons_of_mem _ ((List.dropLast_sublist _).subset hx))) (by omega)
      rw [hdl] at hz
      rw [← hz]
      show 1 :: (b :: rest) = 1 :: ((b :: rest).dropLast ++ [1])
      rw [e]
/-- An error that is found for one of the reasons has a syndrome. -/
theorem found_synd {W : Nat} {g : BitVec W} (hg : g.getLsbD 0 = true) {xs : List Int} (hb : ∀ x ∈ xs, 0 ≤ x ∧ x ≤ 1) (hw : 0 < weight xs)
    (h : (weight xs % 2 = 1 ∧ weight (bitsOf (g.toNat : Int) W) % 2 = 1) ∨ (burst xs).2 ≤ W ∨ (weight xs = 2 ∧ (burst xs).2 - 1 < order g)) : fbs g 0#W (bl xs) ≠ 0#W := by
  have hl : 0 < (burst xs).2 := by
    have hbo := burst_ok xs xs.length
    change BurstOk xs xs.length (burst xs).1 (burst xs).2 at hbo
    rcases hbo with ⟨h1, -, h3⟩ | ⟨h1, -⟩
    · exfalso
      have e : xs = List.replicate xs.length 0 := by
        refine List.eq_replicate_iff.2 ⟨rfl, fun x hx => ?_⟩
        obtain ⟨i, hi, rfl⟩ := List.getElem_of_mem hx
        have := h3 i hi
        rwa [List.getD, List.getElem?_eq_getElem hi] at this
      rw [e, weight_zeros] at hw
      omega
    · exact h1
  obtain ⟨hfl, hp⟩ := burst_parts xs hl
  rcases h with ⟨h1, h2⟩ | h | ⟨h1, h2⟩
  · exact odd_found hb h2 h1
  · intro hz
    rw [hp] at hz
    have hz := (synd_pad hg _ _ _).1 hz
    refine short_found hg (fun x hx => hb x (List.mem_of_mem_drop (List.mem_of_mem_take hx))) (by rw [List.length_take]; omega) ?_ hz
    rw [hp, weight_append, weight_append, weight_zeros, weight_zeros] at hw
    omega
  · intro hz
    obtain ⟨h3, h4⟩ := burst_two hb h1 hl
    rw [hp, h4] at hz
    have hz := (synd_pad hg _ _ _).1 hz
    have hz := (pair_missed _).1 hz
    exact ord_before 5000 1 _ (by omega) (show (burst xs).2 - 2 + 1 < ordFrom g 5000 1 by unfold order at h2; omega) hz
end

section

/-- The first answer among those to n questions from k on. -/
def firstIn {α : Type} (p : Nat → Option α) : Nat → Nat → Option α
  | _, 0 => none
  | k, n + 1 => match p k with
    | some x => some x
    | none => firstIn p (k + 1) n
section
variable {α : Type} {p : Nat → Option α}
theorem first_none {k n : Nat} : firstIn p k n = none ↔ ∀ i, k ≤ i → i < k + n → p i = none := by
  induction n generalizing k with
  | zero => exact ⟨fun _ i h1 h2 => by omega, fun _ => rfl⟩
  | succ n ih =>
    unfold firstIn
    rcases hp : p k with _ | x
    · simp only
      rw [ih]
      constructor
      · intro h i h1 h2
        by_cases e : i = k
        · rw [e]; exact hp
        · exact h i (by omega) (by omega)
      · intro h i h1 h2; exact h i (by omega) (by omega)
    · simp only
      constructor
      · intro h; cases h
      · intro h; have := h k (Nat.le_refl _) (by omega); rw [hp] at this; cases this
theorem first_some {k n : Nat} {x : α} : firstIn p k n = some x ↔ ∃ i, k ≤ i ∧ i < k + n ∧ p i = some x ∧ ∀ j, k ≤ j → j < i → p j = none := by
  induction n generalizing k with
  | zero => exact ⟨(fun h => by cases h), fun ⟨i, h1, h2, _⟩ => by omega⟩
  | succ n ih =>
    unfold firstIn
    rcases hp : p k with _ | y
    · simp only
      rw [ih]
      constructor
      · rintro ⟨i, h1, h2, h3, h4⟩
        refine ⟨i, by omega, by omega, h3, fun j h5 h6 => ?_⟩
        by_cases e : j = k
        · rw [e]; exact hp
        · exact h4 j (by omega) h6
      · rintro ⟨i, h1, h2, h3, h4⟩
        have : i ≠ k := fun e => by rw [e, hp] at h3; cases h3
        exact ⟨i, by omega, by omega, h3, fun j h5 h6 => h4 j (by omega) h6⟩
    · simp only
      constructor
      · intro h; exact ⟨k, Nat.le_refl _, by omega, by rw [hp]; exact h, fun j h1 h2 => by omega⟩
      · rintro ⟨i, h1, h2, h3, h4⟩
        by_cases e : i = k
        · rw [e, hp] at h3; exact h3
        · have := h4 k (Nat.le_refl _) (by omega); rw [hp] at this; cases this
end
section
variable {W : Nat}
/-- The syndrome of a one at index i of a span. -/
def synd (g : BitVec W) (span i : Nat) : BitVec W := tail g (span - 1 - i)
def find1 (g : BitVec W) (span : Nat) : Option (List Int) := firstIn (fun i => if synd g span i = 0#W then some [(i : Int)] else none) 0 span
def find2At (g : BitVec W) (span i : Nat) : Option (List Int) := firstIn (fun k => if synd g span i = synd g span k then some [(i : Int), (k : Int)] else none) (i + 1) (span - (i + 1))
def find2 (g : BitVec W) (span : Nat) : Option (List Int) := firstIn (find2At g span) 0 span
def find3Of (g : BitVec W) (span i k : Nat) : Option (List Int) := firstIn (fun j => if synd g span i ^^^ synd g span k = synd g span j then some [(i : Int), (k : Int), (j : Int)] else none) (k + 1) (span - (k + 1))
def find3At (g : BitVec W) (span i : Nat) : Option (List Int) := firstIn (find3Of g span i) (i + 1) (span - (i + 1))
def find3 (g : BitVec W) (span : Nat) : Option (List Int) := firstIn (find3At g span) 0 span
/-- The first missed error of a weight of at most 3, or none. -/
def firstMissed (g : BitVec W) (span : Nat) : List Int :=
  match find1 g span with
  | some l => l
  | none => match find2 g span with
    | some l => l
    | none => match find3 g span with
      | some l => l
      | none => []
variable {g : BitVec W}
theorem synd_ne (hg : g.getLsbD 0 = true) (span i : Nat) : synd g span i ≠ 0#W := by
  intro h
  unfold synd tail at h
  have := fbs_inj0 hg _ h
  rw [this] at hg
  simp at hg
theorem find1_none (hg : g.getLsbD 0 = true) (span : Nat) : find1 g span = none := by
  unfold find1
  rw [first_none]
  intro i _ _
  rw [if_neg (synd_ne hg span i)]
/-- What a pair or a triple that is found is. -/
theorem find2_get {span : Nat} {l : List Int} (h : find2 g span = some l) : ∃ i k, i < k ∧ k < span ∧ l = [(i : Int), (k : Int)] ∧ synd g span i = synd g span k := by
  unfold find2 at h
  obtain ⟨i, -, hi, h, -⟩ := first_some.1 h
  unfold find2At at h
  obtain ⟨k, h1, h2, h, -⟩ := first_some.1 h
  by_cases e : synd g span i = synd g span k
  · rw [if_pos e] at h
    exact ⟨i, k, by omega, by omega, (Option.some.inj h).symm, e⟩
  · rw [if_neg e] at h; cases h
theorem find3_get {span : Nat} {l : List Int} (h : find3 g span = some l) : ∃ i k j, i < k ∧ k < j ∧ j < span ∧ l = [(i : Int), (k : Int), (j : Int)] ∧ synd g span i ^^^ synd g span k = synd g span j := by
  unfold find3 at h
  obtain ⟨i, -, hi, h, -⟩ := first_some.1 h
  unfold find3At at h
  obtain ⟨k, h1, h2, h, -⟩ := first_some.1 h
  unfold find3Of at h
  obtain ⟨j, h3, h4, h, -⟩ := first_some.1 h
  by_cases e : synd g span i ^^^ synd g span k = synd g span j
  · rw [if_pos e] at h
    exact ⟨i, k, j, by omega, by omega, by omega, (Option.some.inj h).symm, e⟩
  · rw [if_neg e] at h; cases h
theorem find2_some {span i k : Nat} (h1 : i < k) (h2 : k < span) (h : synd g span i = synd g span k) : find2 g span ≠ none := by
  intro hn
  unfold find2 at hn
  have := first_none.1 hn i (Nat.zero_le _) (by omega)
  unfold find2At at this
  have := first_none.1 this k (by omega) (by omega)
  rw [if_pos h] at this; cases this
theorem find3_some {span i k j : Nat} (h1 : i < k) (h2 : k < j) (h3 : j < span) (h : synd g span i ^^^ synd g span k = synd g span j) : find3 g span ≠ none := by
  intro hn
  unfold find3 at hn
  have := first_none.1 hn i (Nat.zero_le _) (by omega)
  unfold find3At at this
  have := first_none.1 this k (by omega) (by omega)
  unfold find3Of at this
  have := first_none.1 this j (by omega) (by omega)
  rw [if_pos h] at this; cases this
theorem synd_shift (span i : Nat) (h : i < span) : synd g (span + 1) (i + 1) = synd g span i := by
  unfold synd
  congr 1; omega
/-- The least weight, 4 if there is no missed error of a weight of at most 3. -/
def leastWeight (g : BitVec W) (span : Nat) : Nat := if (firstMissed g span).length = 0 then 4 else (firstMissed g span).length
theorem firstMissed_cases (hg : g.getLsbD 0 = true) (span : Nat) :
    (∃ i k, i < k ∧ k < span ∧ firstMissed g span = [(i : Int), (k : Int)] ∧ synd g span i = synd g span k) ∨
    (find2 g span = none ∧ ∃ i k j, i < k ∧ k < j ∧ j < span ∧ firstMissed g span = [(i : Int), (k : Int), (j : Int)] ∧ synd g span i ^^^ synd g span k = synd g span j) ∨
    (find2 g span = none ∧ find3 g span = none ∧ firstMissed g span = []) := by
  unfold firstMissed
  rw [find1_none hg]
  simp only
  rcases h2 : find2 g span with _ | l
  · simp only
    rcases h3 : find3 g span with _ | l
    · exact .inr (.inr ⟨by simp, by simp, rfl⟩)
    · obtain ⟨i, k, j, a, b, c, rfl, d⟩ := find3_get h3
      exact .inr (.inl ⟨by simp, i, k, j, a, b, c, rfl, d⟩)
  · obtain ⟨i, k, a, b, rfl, d⟩ := find2_get h2
    exact .inl ⟨i, k, a, b, rfl, d⟩
/-- A smaller span has none of a smaller weight. -/
theorem least_mono (hg : g.getLsbD 0 = true) (span : Nat) : leastWeight g (span + 1) ≤ leastWeight g span := by
  unfold leastWeight
  rcases firstMissed_cases hg span with ⟨i, k, h1, h2, h3, h4⟩ | ⟨hn, i, k, j, h1, h2, h3, h4, h5⟩ | ⟨hn, hm, h4⟩
  · rw [h3]
    have hs := find2_some (g := g) (span := span + 1) (i := i + 1) (k := k + 1) (by omega) (by omega) (by rw [synd_shift _ _ (by omega), synd_shift _ _ h2]; exact h4)
    rcases firstMissed_cases hg (span + 1) with ⟨_, _, _, _, h, _⟩ | ⟨h, _⟩ | ⟨h, _⟩
    · rw [h]; simp
    · exact absurd h hs
    · exact absurd h hs
  · rw [h4]
    have hs := find3_some (g := g) (span := span + 1) (i := i + 1) (k := k + 1) (j := j + 1) (by omega) (by omega) (by omega) (by rw [synd_shift _ _ (by omega), synd_shift _ _ (by omega), synd_shift _ _ h3]; exact h5)
    rcases firstMissed_cases hg (span + 1) with ⟨_, _, _, _, h, _⟩ | ⟨_, _, _, _, _, _, _, h, _⟩ | ⟨_, h, _⟩
    · rw [h]; simp
    · rw [h]; simp
    · exact absurd h hs
  · rw [h4]
    rcases firstMissed_cases hg (span + 1) with ⟨_, _, _, _, h, _⟩ | ⟨_, _, _, _, _, _, _, h, _⟩ | ⟨_, _, h⟩ <;> rw [h] <;> simp
/-- A one is added at an index where there is none. -/
theorem synd_flip (span i : Nat) (xs : List Int) (hl : xs.length = span) (hb : ∀ x ∈ xs, 0 ≤ x ∧ x ≤ 1) (hi : i < span) : fbs g 0#W (bl (xs.set i (1 - xs.getD i 0))) = fbs g 0#W (bl xs) ^^^ synd g span i := by
  have e1 : bl (xs.set i (1 - xs.getD i 0)) = List.zipWith (· ^^ ·) (bl xs) (bl (List.replicate i 0 ++ [1] ++ List.replicate (span - 1 - i) 0)) := by
    apply List.ext_getElem
    · simp [bl]; omega
    · intro j h1 h2
      have hj : j < xs.length := by simpa [bl] using h1
      have hx := hb _ (List.getElem_mem hj)
      have hxi : xs.getD i 0 = xs[i]'(by omega) := by simp [List.getD, List.getElem?_eq_getElem (show i < xs.length by omega)]
      simp only [bl, List.getElem_map, List.getElem_zipWith, List.getElem_set]
      by_cases hij : i = j
      · subst hij
        have e : (List.replicate i (0 : Int) ++ [1] ++ List.replicate (span - 1 - i) 0)[i]'(by simp <;> omega) = 1 := by
          rw [List.getElem_append_left (by simp), List.getElem_append_right (by simp)]
          simp
        rw [if_pos rfl, e, hxi]
        have hc : xs[i] = 0 ∨ xs[i] = 1 := by omega
        rcases hc with hc | hc <;> rw [hc] <;> rfl
      · have e : (List.replicate i (0 : Int) ++ [1] ++ List.replicate (span - 1 - i) 0)[j]'(by simp <;> omega) = 0 := by
          by_cases hlt : j < i
          · rw [List.getElem_append_left (by simp <;> omega), List.getElem_append_left (by simpa using hlt)]
            simp
          · rw [List.getElem_append_right (by simp <;> omega)]
            simp
        rw [if_neg hij, e]
        simp
  have e2 := fbs_xor (g := g) (bl xs) (bl (List.replicate i 0 ++ [1] ++ List.replicate (span - 1 - i) 0)) (0#W) (0#W) (by simp [bl] <;> omega)
  rw [BitVec.xor_zero, ← e1] at e2
  rw [e2]
  congr 1
  rw [bl_append, bl_append, fbs_append, fbs_append, bl_zeros, bl_zeros, fbs_zero]
  have e3 : fbs g 0#W (bl [1]) = g := fb_zero_true
  rw [e3]; rfl
end
end
end Go.Proofs.Ytbdfnkhmnglpbaa
