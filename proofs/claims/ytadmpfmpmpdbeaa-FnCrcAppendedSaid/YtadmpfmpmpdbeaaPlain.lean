/-
  What the functions of chapter 1 compute, as plain functions on lists, and plain facts on these. No program is named here.
-/
import Derived.Test.YtadmpfmpmpdbeaaLists
namespace Go.Proofs.Ytadmpfmpmpdbeaa

/-- Bit number i of v in a width, the most significant one first. -/
def bitAt (v : Int) (width i : Nat) : Int := v / 2 ^ (width - 1 - i) % 2
def topBits (v : Int) (width j : Nat) : List Int := (List.range j).map (bitAt v width)
def bitsOf (v : Int) (width : Nat) : List Int := topBits v width width
def numFrom (n : Int) (bits : List Int) : Int := bits.foldl (fun n b => 2 * n + b) n
def numOf (bits : List Int) : Int := numFrom 0 bits
def appendNumber (xs : List Int) (v width : Int) : List Int × Int :=
  if isBits xs = false then ([], 1) else if ¬ (0 ≤ width ∧ width ≤ 40) ∨ ¬ (0 ≤ v ∧ v < 2 ^ width.toNat) then ([], 2) else if 8192 < (xs.length : Int) + width then ([], 3) else (xs ++ bitsOf v width.toNat, 0)
def numberAt (xs : List Int) (at_ width : Int) : Int × Int :=
  if isBits xs = false then (0, 1) else if ¬ (0 ≤ width ∧ width ≤ 40) ∨ ¬ (0 ≤ at_ ∧ at_ ≤ (xs.length : Int) - width) then (0, 2) else (numOf ((xs.drop at_.toNat).take width.toNat), 0)
def bytesToBits (xs : List Int) : List Int × Int := if isBytes xs = false then ([], 1) else (xs.flatMap (bitsOf · 8), 0)
def bytesTo (xs : List Int) (j : Nat) : List Int := (List.range j).map fun i => numOf ((xs.drop (8 * i)).take 8)
def bitsToBytes (xs : List Int) : List Int × Int :=
  if isBits xs = false then ([], 1) else if xs.length % 8 ≠ 0 then ([], 5) else (bytesTo xs (xs.length / 8), 0)

theorem topBits_len (v : Int) (w j : Nat) : (topBits v w j).length = j := by simp [topBits]
theorem topBits_succ (v : Int) (w j : Nat) : topBits v w (j + 1) = topBits v w j ++ [bitAt v w j] := by simp [topBits, List.range_succ]
theorem bitsOf_len (v : Int) (w : Nat) : (bitsOf v w).length = w := topBits_len v w w
theorem numFrom_snoc (n b : Int) (xs : List Int) : numFrom n (xs ++ [b]) = 2 * numFrom n xs + b := by simp [numFrom, List.foldl_append]
theorem numOf_snoc (b : Int) (xs : List Int) : numOf (xs ++ [b]) = 2 * numOf xs + b := numFrom_snoc 0 b xs
theorem numFrom_bound (xs : List Int) (n : Int) (k : Nat) (h0 : 0 ≤ n) (h1 : n < 2 ^ k) (h : ∀ x ∈ xs, 0 ≤ x ∧ x ≤ 1) : 0 ≤ numFrom n xs ∧ numFrom n xs < 2 ^ (k + xs.length) := by
  induction xs generalizing n k with
  | nil => exact ⟨h0, h1⟩
  | cons b xs ih =>
    have hb := h b (by simp)
    have := ih (2 * n + b) (k + 1) (by omega) (by rw [Int.pow_succ]; omega) (fun x hx => h x (by simp [hx]))
    rw [List.length_cons, show k + (xs.length + 1) = k + 1 + xs.length from by omega]
    exact this
/-- A number of some bits lies below 2 to their number. -/
theorem numOf_bound (xs : List Int) (h : ∀ x ∈ xs, 0 ≤ x ∧ x ≤ 1) : 0 ≤ numOf xs ∧ numOf xs < 2 ^ xs.length := by
  have := numFrom_bound xs 0 0 (by omega) (by simp) h
  rwa [Nat.zero_add] at this
theorem flat_len (xs : List Int) : (xs.flatMap (bitsOf · 8)).length = 8 * xs.length := by
  induction xs with
  | nil => rfl
  | cons x xs ih => rw [List.flatMap_cons, List.length_append, bitsOf_len, ih, List.length_cons]; omega
theorem isBits_iff {xs : List Int} : isBits xs = true ↔ xs.length ≤ 8192 ∧ ∀ x ∈ xs, 0 ≤ x ∧ x ≤ 1 := by
  unfold isBits within
  rw [Bool.and_eq_true, allIn_iff, decide_eq_true_eq]
  constructor
  · rintro ⟨a, b⟩; exact ⟨by omega, b⟩
  · rintro ⟨a, b⟩; exact ⟨by omega, b⟩
theorem isBytes_iff {xs : List Int} : isBytes xs = true ↔ xs.length ≤ 1024 ∧ ∀ x ∈ xs, 0 ≤ x ∧ x ≤ 255 := by
  unfold isBytes within
  rw [Bool.and_eq_true, allIn_iff, decide_eq_true_eq]
  constructor
  · rintro ⟨a, b⟩; exact ⟨by omega, b⟩
  · rintro ⟨a, b⟩; exact ⟨by omega, b⟩
theorem appendNumber_len (xs : List Int) (v width : Int) : (appendNumber xs v width).1.length ≤ 8192 := by
  unfold appendNumber
  split
  · simp
  · split
    · simp
    · split
      · simp
      · simp only [List.length_append, bitsOf_len]; omega
theorem bytesToBits_len (xs : List Int) : (bytesToBits xs).1.length ≤ 8192 := by
  unfold bytesToBits
  split
  · simp
  · rename_i h
    have h := (isBytes_iff.1 (by simpa using h)).1
    simp only [flat_len]; omega
theorem bitsToBytes_len (xs : List Int) : (bitsToBytes xs).1.length ≤ 8192 := by
  unfold bitsToBytes
  split
  · simp
  · split
    · simp
    · rename_i h _
      have h := (isBits_iff.1 (by simpa using h)).1
      simp only [bytesTo, List.length_map, List.length_range]; omega
end Go.Proofs.Ytadmpfmpmpdbeaa
