/-
  Feeding a register with bits, as plain functions on bit vectors: linearity, the eight bits at once, the register 0 behind a list with its check number. No program is named here.
-/
import Derived.Test.YtadmpfmpmpdbeaaPlain
namespace Go.Proofs.Ytadmpfmpmpdbeaa

/-- A register that is fed with one bit. -/
def fb {w : Nat} (g r : BitVec w) (b : Bool) : BitVec w := (r <<< 1) ^^^ (if r.msb ^^ b then g else 0#w)
def fbs {w : Nat} (g r : BitVec w) (bs : List Bool) : BitVec w := bs.foldl (fb g) r
/-- The first k bits of a register, noughts behind them. -/
def tops {w : Nat} (r : BitVec w) : Nat → List Bool
  | 0 => []
  | k + 1 => r.msb :: tops (r <<< 1) k
/-- A list of noughts and ones as bools. -/
def bl (xs : List Int) : List Bool := xs.map fun x => decide (x = 1)

section
variable {w : Nat} {g r s : BitVec w}
theorem xor_mid (a b c d : BitVec w) : (a ^^^ b) ^^^ (c ^^^ d) = (a ^^^ c) ^^^ (b ^^^ d) := by
  rw [BitVec.xor_assoc, BitVec.xor_assoc, ← BitVec.xor_assoc b c d, BitVec.xor_comm b c, BitVec.xor_assoc c b d]
theorem fb_xor (b c : Bool) : fb g (r ^^^ s) (b ^^ c) = fb g r b ^^^ fb g s c := by
  unfold fb
  rw [BitVec.shiftLeft_xor_distrib, BitVec.msb_xor, xor_mid]
  congr 1
  cases r.msb <;> cases s.msb <;> cases b <;> cases c <;> simp
theorem fbs_xor : ∀ (bs cs : List Bool) (r s : BitVec w), bs.length = cs.length → fbs g (r ^^^ s) (List.zipWith (· ^^ ·) bs cs) = fbs g r bs ^^^ fbs g s cs
  | [], [], _, _, _ => rfl
  | b :: bs, c :: cs, r, s, h => by
    have := fbs_xor bs cs (fb g r b) (fb g s c) (by simpa using h)
    simpa [fbs, fb_xor] using this
  | [], _ :: _, _, _, h => by simp at h
  | _ :: _, [], _, _, h => by simp at h
theorem fb_zero : fb g 0#w false = 0#w := by simp [fb]
theorem fbs_zero (n : Nat) : fbs g 0#w (List.replicate n false) = 0#w := by
  induction n with
  | zero => rfl
  | succ n ih => simpa [fbs, List.replicate_succ, fb_zero] using ih
theorem zip_zero (bs : List Bool) : List.zipWith (· ^^ ·) bs (List.replicate bs.length false) = bs := by
  induction bs with
  | nil => rfl
  | cons b bs ih => simp [List.replicate_succ, ih]
theorem zip_self (bs : List Bool) : List.zipWith (· ^^ ·) bs bs = List.replicate bs.length false := by
  induction bs with
  | nil => rfl
  | cons b bs ih =>
    show (b ^^ b) :: _ = false :: List.replicate bs.length false
    rw [Bool.xor_self]
    exact congrArg _ ih
theorem fbs_split (bs : List Bool) : fbs g (r ^^^ s) bs = fbs g r bs ^^^ fbs g s (List.replicate bs.length false) := by
  have := fbs_xor (g := g) bs (List.replicate bs.length false) r s (by simp)
  rwa [zip_zero] at this
theorem fbs_append (bs cs : List Bool) : fbs g r (bs ++ cs) = fbs g (fbs g r bs) cs := by simp [fbs, List.foldl_append]
theorem fbs_snoc (bs : List Bool) (b : Bool) : fbs g r (bs ++ [b]) = fb g (fbs g r bs) b := by simp [fbs, List.foldl_append]
theorem tops_len (r : BitVec w) (k : Nat) : (tops r k).length = k := by
  induction k generalizing r with
  | zero => rfl
  | succ k ih => simp [tops, ih]
theorem tops_eq (r : BitVec w) (k : Nat) : tops r k = (List.range k).map r.getMsbD := by
  induction k generalizing r with
  | zero => rfl
  | succ k ih =>
    rw [tops, ih, List.range_succ_eq_map, List.map_cons, List.map_map]
    congr 1
    refine List.map_congr_left fun i _ => ?_
    simp [BitVec.getMsbD_shiftLeft]
/-- What a list of bits does to a register: as the list that differs by the register's first bits does to 0, beside the register moved up. -/
theorem fbs_tops (bs : List Bool) (r : BitVec w) : fbs g r bs = fbs g 0#w (List.zipWith (· ^^ ·) bs (tops r bs.length)) ^^^ (r <<< bs.length) := by
  induction bs generalizing r with
  | nil => simp [fbs]
  | cons b bs ih =>
    have e1 : fbs g r (b :: bs) = fbs g (fb g r b) bs := rfl
    have e2 : fb g r b = (r <<< 1) ^^^ (if r.msb ^^ b then g else 0#w) := rfl
    have e3 : fbs g 0#w (List.zipWith (· ^^ ·) (b :: bs) (tops r (b :: bs).length)) = fbs g (fb g 0#w (b ^^ r.msb)) (List.zipWith (· ^^ ·) bs (tops (r <<< 1) bs.length)) := rfl
    have e4 : fb g 0#w (b ^^ r.msb) = 0#w ^^^ (if r.msb ^^ b then g else 0#w) := by
      unfold fb
      rw [show ((0#w).msb ^^ (b ^^ r.msb)) = (r.msb ^^ b) from by simp [Bool.xor_comm]]
      simp
    have hl : (List.zipWith (· ^^ ·) bs (tops (r <<< 1) bs.length)).length = bs.length := by simp [tops_len]
    rw [e1, e2, fbs_split, ih, e3, e4, fbs_split, hl]
    rw [BitVec.xor_assoc, BitVec.xor_comm (r <<< 1 <<< bs.length), ← BitVec.xor_assoc, ← BitVec.shiftLeft_add, Nat.add_comm 1, List.length_cons]
theorem shift_all : r <<< w = 0#w := by
  apply BitVec.eq_of_getLsbD_eq
  intro i hi
  simp [hi]
/-- A register that is fed with its own bits is 0. -/
theorem fbs_own (bs : List Bool) (h : bs.length = w) (hb : bs = tops r w) : fbs g r bs = 0#w := by
  rw [fbs_tops, h, ← hb, zip_self, fbs_zero, shift_all, BitVec.xor_zero]
theorem fb_inj (hg : g.getLsbD 0 = true) (h : fb g r false = 0#w) : r = 0#w := by
  have hw : 0 < w := BitVec.lt_of_getLsbD hg
  unfold fb at h
  rw [Bool.xor_false] at h
  have hm : r.msb = false := by
    rcases hm : r.msb with _ | _
    · rfl
    · exfalso
      rw [hm] at h
      have h0 := congrArg (fun x => BitVec.getLsbD x 0) h
      simp [hg] at h0
  rw [hm] at h
  simp only [Bool.false_eq_true, if_false, BitVec.xor_zero] at h
  apply BitVec.eq_of_getLsbD_eq
  intro i hi
  rw [BitVec.getLsbD_zero]
  by_cases hl : i + 1 < w
  · have h1 := congrArg (fun x => BitVec.getLsbD x (i + 1)) h
    simpa [hl, hi] using h1
  · rw [BitVec.msb_eq_getLsbD_last] at hm
    rw [show i = w - 1 from by omega]; exact hm
theorem fbs_inj0 (hg : g.getLsbD 0 = true) (n : Nat) (h : fbs g r (List.replicate n false) = 0#w) : r = 0#w := by
  induction n generalizing r with
  | zero => exact h
  | succ n ih => exact fb_inj hg (ih h)
theorem fbs_inj (hg : g.getLsbD 0 = true) (bs : List Bool) (h : fbs g r bs = fbs g s bs) : r = s := by
  have h1 := fbs_xor (g := g) bs bs r s rfl
  rw [zip_self, h, BitVec.xor_self] at h1
  have h2 := fbs_inj0 hg _ h1
  have h3 : (r ^^^ s) ^^^ s = 0#w ^^^ s := by rw [h2]
  rwa [BitVec.xor_assoc, BitVec.xor_self, BitVec.xor_zero, BitVec.zero_xor] at h3
end
end Go.Proofs.Ytadmpfmpmpdbeaa
