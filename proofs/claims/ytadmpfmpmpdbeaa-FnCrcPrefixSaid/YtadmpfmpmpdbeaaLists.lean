/-
  Plain facts on lists of numbers: what the leaves of chapter 1 compute. No program is named here.
-/
import Derived.Test.YtadmpfmpmpdbeaaKit
namespace Go.Proofs.Ytadmpfmpmpdbeaa

/-- x lies in 0 to hi. -/
def inR (hi x : Int) : Bool := decide (0 ≤ x) && decide (x ≤ hi)
def allIn (hi : Int) (xs : List Int) : Bool := xs.all (inR hi)
def within (most hi : Int) (xs : List Int) : Bool := decide ((xs.length : Int) ≤ most) && allIn hi xs
def isBits (xs : List Int) : Bool := within 8192 1 xs
def isBytes (xs : List Int) : Bool := within 1024 255 xs

theorem inR_true {hi x : Int} (h0 : 0 ≤ x) (h1 : x ≤ hi) : inR hi x = true := by simp [inR, h0, h1]
theorem inR_low {hi x : Int} (h0 : x < 0) : inR hi x = false := by simp only [inR, Bool.and_eq_false_iff, decide_eq_false_iff_not]; left; omega
theorem inR_high {hi x : Int} (h0 : hi < x) : inR hi x = false := by simp only [inR, Bool.and_eq_false_iff, decide_eq_false_iff_not]; right; omega
theorem allIn_succ {hi : Int} {xs : List Int} {k : Nat} (hk : k < xs.length) (h : allIn hi (xs.take k) = true) (hx : inR hi (xs.getD k 0) = true) : allIn hi (xs.take (k + 1)) = true := by
  rw [take_succ' xs k hk]; unfold allIn at *; rw [List.all_append, h]; simp only [List.all_cons, List.all_nil, hx, Bool.and_self]
theorem allIn_no {hi : Int} {xs : List Int} {k : Nat} (hk : k < xs.length) (hx : inR hi (xs.getD k 0) = false) : allIn hi xs = false := by
  unfold allIn
  rw [List.all_eq_false]
  refine ⟨xs[k], List.getElem_mem hk, ?_⟩
  rw [List.getD, List.getElem?_eq_getElem hk] at hx
  simpa using hx
theorem within_long {most hi : Int} {xs : List Int} (h : most < (xs.length : Int)) : within most hi xs = false := by
  have : ¬ ((xs.length : Int) ≤ most) := by omega
  simp [within, this]
theorem within_no {most hi : Int} {xs : List Int} (h : allIn hi xs = false) : within most hi xs = false := by simp [within, h]
theorem within_yes {most hi : Int} {xs : List Int} (h : (xs.length : Int) ≤ most) (h' : allIn hi xs = true) : within most hi xs = true := by simp [within, h, h']
theorem allIn_iff {hi : Int} {xs : List Int} : allIn hi xs = true ↔ ∀ x ∈ xs, 0 ≤ x ∧ x ≤ hi := by
  simp [allIn, inR, List.all_eq_true]
theorem getD_mem' {xs : List Int} {k : Nat} (h : k < xs.length) : xs.getD k 0 ∈ xs := by
  rw [List.getD, List.getElem?_eq_getElem h]; exact List.getElem_mem h
/-- While a list is copied: its first k numbers, then noughts. -/
def fillTo (xs : List Int) (k : Nat) : List Int := xs.take k ++ List.replicate (xs.length - k) 0
theorem fillTo_len (xs : List Int) (k : Nat) (hk : k ≤ xs.length) : (fillTo xs k).length = xs.length := by
  unfold fillTo; rw [List.length_append, List.length_take, List.length_replicate]; omega
theorem fillTo_zero (xs : List Int) : fillTo xs 0 = List.replicate xs.length 0 := by simp [fillTo]
theorem fillTo_all (xs : List Int) : fillTo xs xs.length = xs := by simp [fillTo]
theorem fillTo_succ (xs : List Int) (k : Nat) (hk : k < xs.length) : (fillTo xs k).set k (xs.getD k 0) = fillTo xs (k + 1) := by
  have hm : min k xs.length = k := by omega
  unfold fillTo
  rw [take_succ' xs k hk, List.set_append_right _ _ (by rw [List.length_take]; omega)]
  rw [show xs.length - k = (xs.length - (k + 1)) + 1 from by omega, List.replicate_succ, List.length_take, hm, Nat.sub_self, List.set_cons_zero]
  simp
/-- The numbers that a marking writes: q, q + 1, .. -/
def marks (q : Int) : Nat → List Int
  | 0 => []
  | n + 1 => q :: marks (q + 1) n
theorem marks_len (q : Int) (n : Nat) : (marks q n).length = n := by
  induction n generalizing q with
  | zero => rfl
  | succ n ih => simp [marks, ih]
theorem marks_getD (q : Int) (n i : Nat) (h : i < n) : (marks q n).getD i 0 = q + i := by
  induction n generalizing q i with
  | zero => omega
  | succ n ih =>
    cases i with
    | zero => simp [marks]
    | succ i => simp only [marks, List.getD_cons_succ]; rw [ih (q + 1) i (by omega)]; omega
theorem marks_succ (q : Int) (n : Nat) : marks q (n + 1) = marks q n ++ [q + n] := by
  induction n generalizing q with
  | zero => simp [marks]
  | succ n ih => rw [marks, ih (q + 1)]; simp only [marks, List.cons_append, List.cons.injEq, true_and]; congr 2; omega
/-- While a list is marked: the first k numbers are marks, the others as they were. -/
def markTo (q : Int) (xs : List Int) (k : Nat) : List Int := marks q k ++ xs.drop k
theorem markTo_len (q : Int) (xs : List Int) (k : Nat) (hk : k ≤ xs.length) : (markTo q xs k).length = xs.length := by
  unfold markTo; rw [List.length_append, marks_len, List.length_drop]; omega
theorem markTo_zero (q : Int) (xs : List Int) : markTo q xs 0 = xs := by simp [markTo, marks]
theorem markTo_all (q : Int) (xs : List Int) : markTo q xs xs.length = marks q xs.length := by simp [markTo]
theorem markTo_succ (q : Int) (xs : List Int) (k : Nat) (hk : k < xs.length) : (markTo q xs k).set k (q + k) = markTo q xs (k + 1) := by
  unfold markTo
  rw [List.set_append_right _ _ (by rw [marks_len]; exact Nat.le_refl _), marks_len, Nat.sub_self, marks_succ, List.drop_eq_getElem_cons hk, List.set_cons_zero]
  simp
theorem list_eq_of_take {xs ys : List Int} {n : Nat} (hx : xs.length = n) (hy : ys.length = n) (h : xs.take n = ys.take n) : xs = ys := by
  rwa [List.take_of_length_le (by omega), List.take_of_length_le (by omega)] at h
theorem ne_of_getD {xs ys : List Int} {k : Nat} (h : xs.getD k 0 ≠ ys.getD k 0) : decide (xs = ys) = false := by
  rw [decide_eq_false_iff_not]; intro e; exact h (by rw [e])
theorem ne_of_len {xs ys : List Int} (h : xs.length ≠ ys.length) : decide (xs = ys) = false := by
  rw [decide_eq_false_iff_not]; intro e; exact h (by rw [e])
theorem take_eq_succ {xs ys : List Int} {k : Nat} (hx : k < xs.length) (hy : k < ys.length) (h : xs.take k = ys.take k) (he : xs.getD k 0 = ys.getD k 0) : xs.take (k + 1) = ys.take (k + 1) := by
  rw [take_succ' xs k hx, take_succ' ys k hy, h, he]
theorem map_set (xs : List Int) (k : Nat) (v : Int) : (xs.map (Value.int .i64)).set k (.int .i64 v) = (xs.set k v).map (Value.int .i64) := (List.map_set).symm
end Go.Proofs.Ytadmpfmpmpdbeaa
