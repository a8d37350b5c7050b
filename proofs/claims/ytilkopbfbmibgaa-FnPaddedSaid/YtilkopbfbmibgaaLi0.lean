/-
  Chapter 18: the cells of a line. Plain functions on lists, and what the laws say of them. No program is named here.
-/
import Derived.Test.YtilkopbfbmibgaaReg
namespace Go.Proofs.Ytilkopbfbmibgaa

/-- The cells of one byte. -/
def byteCells (b : Int) : List Int := 1 :: 0 :: bitsOf b 8
def cellsL (xs : List Int) (p : Nat) : List Int := List.replicate p 0 ++ 1 :: (xs.flatMap byteCells ++ [0, 1])
def isPre (p : Int) : Bool := decide (3 ≤ p) && decide (p ≤ 15)
def cellsOf (xs : List Int) (p : Int) : List Int × Int :=
  if isBytes xs = false then ([], 1) else if isPre p = false then ([], 2) else if 8192 < p + 3 + 10 * (xs.length : Int) then ([], 3) else (cellsL xs p.toNat, 0)
/-- How many numbers ahead equal v. -/
def runL (v : Int) : List Int → Nat
  | [] => 0
  | x :: r => if x = v then runL v r + 1 else 0
/-- The bytes ahead, and what is left behind them. -/
def takeBytes (l : List Int) : List Int × List Int :=
  if _h : 10 ≤ l.length ∧ l.getD 0 0 = 1 ∧ l.getD 1 0 = 0 then
    (numOf ((l.drop 2).take 8) :: (takeBytes (l.drop 10)).1, (takeBytes (l.drop 10)).2)
  else ([], l)
termination_by l.length
decreasing_by all_goals (simp only [List.length_drop]; omega)
/-- The idle cells, the preamble, the bytes of a line. -/
def parseL (xs : List Int) : Option (Nat × Nat × List Int) :=
  if isPre (runL 0 (xs.drop (runL 1 xs))) = true ∧ runL 1 xs + runL 0 (xs.drop (runL 1 xs)) < xs.length ∧
      2 ≤ (takeBytes (xs.drop (runL 1 xs + runL 0 (xs.drop (runL 1 xs)) + 1))).2.length ∧
      (takeBytes (xs.drop (runL 1 xs + runL 0 (xs.drop (runL 1 xs)) + 1))).2.getD 0 1 = 0 ∧
      runL 1 ((takeBytes (xs.drop (runL 1 xs + runL 0 (xs.drop (runL 1 xs)) + 1))).2.drop 1) = (takeBytes (xs.drop (runL 1 xs + runL 0 (xs.drop (runL 1 xs)) + 1))).2.length - 1
  then some (runL 1 xs, runL 0 (xs.drop (runL 1 xs)), (takeBytes (xs.drop (runL 1 xs + runL 0 (xs.drop (runL 1 xs)) + 1))).1) else none
/-- The parts of a line, and its code. -/
def lineOf (xs : List Int) : (Int × Int × List Int) × Int :=
  if isBits xs = false then ((0, 0, []), 1) else match parseL xs with | none => ((0, 0, []), 6) | some (i, p, d) => (((i : Int), (p : Int), d), 0)
def bytesOfLine (xs : List Int) : List Int × Int := ((lineOf xs).1.2.2, (lineOf xs).2)
def isLine (xs : List Int) : Bool := (lineOf xs).2 == 0
def padLine (xs : List Int) (b a : Int) : List Int × Int :=
  if isBits xs = false then ([], 1) else if ¬ ((0 ≤ b ∧ b ≤ 8192) ∧ 0 ≤ a ∧ a ≤ 8192) then ([], 2) else if 8192 < (xs.length : Int) + b + a then ([], 3) else
    (List.replicate b.toNat 1 ++ xs ++ List.replicate a.toNat 1, 0)
def placesTo (at_ : Int) (n : Nat) : List Int := (List.range n).flatMap fun (i : Nat) => (List.range 8).map fun (k : Nat) => at_ + 10 * (i : Int) + 2 + (k : Int)
def dataCells (xs : List Int) : List Int × Int :=
  if (lineOf xs).2 = 0 then (placesTo ((lineOf xs).1.1 + (lineOf xs).1.2.1 + 1) (lineOf xs).1.2.2.length, 0) else ([], (lineOf xs).2)
def transmissionSize (n p : Int) : Int × Int :=
  if (0 ≤ n ∧ n ≤ 1024) ∧ isPre p = true then (p + 3 + 10 * n, 0) else (0, 2)

theorem isPre_iff {p : Int} : isPre p = true ↔ 3 ≤ p ∧ p ≤ 15 := by simp [isPre]
theorem byteCells_len (b : Int) : (byteCells b).length = 10 := by simp [byteCells, bitsOf_len]
theorem flatCells_len (xs : List Int) : (xs.flatMap byteCells).length = 10 * xs.length := by
  induction xs with
  | nil => rfl
  | cons x xs ih => rw [List.flatMap_cons, List.length_append, byteCells_len, ih, List.length_cons]; omega
theorem cellsL_len (xs : List Int) (p : Nat) : (cellsL xs p).length = p + 3 + 10 * xs.length := by
  unfold cellsL
  rw [List.length_append, List.length_replicate, List.length_cons, List.length_append, flatCells_len]
  simp only [List.length_cons, List.length_nil]
  omega
theorem byteCells_bits (b : Int) : ∀ x ∈ byteCells b, 0 ≤ x ∧ x ≤ 1 := by
  intro x hx
  simp only [byteCells, List.mem_cons] at hx
  rcases hx with rfl | rfl | hx
  · omega
  · omega
  · exact bitsOf_bits _ _ x hx
theorem cellsL_bits (xs : List Int) (p : Nat) : ∀ x ∈ cellsL xs p, 0 ≤ x ∧ x ≤ 1 := by
  intro x hx
  simp only [cellsL, List.mem_append, List.mem_cons, List.mem_replicate, List.mem_flatMap, List.not_mem_nil, or_false] at hx
  rcases hx with ⟨-, rfl⟩ | rfl | ⟨b, -, hb⟩ | rfl | rfl
  · omega
  · omega
  · exact byteCells_bits b x hb
  · omega
  · omega

/-! ### runs -/
theorem runL_rep (v : Int) (n : Nat) (l : List Int) : runL v (List.replicate n v ++ l) = n + runL v l := by
  induction n with
  | zero => simp
  | succ n ih => rw [List.replicate_succ, List.cons_append, runL, if_pos rfl, ih]; omega
theorem runL_no {v x : Int} (h : x ≠ v) (r : List Int) : runL v (x :: r) = 0 := by rw [runL, if_neg h]
theorem runL_all (v : Int) (n : Nat) : runL v (List.replicate n v) = n := by
  have := runL_rep v n []
  rwa [List.append_nil] at this
theorem runL_le (v : Int) : ∀ l : List Int, runL v l ≤ l.length
  | [] => Nat.le_refl _
  | x :: r => by
    rw [runL]
    have := runL_le v r
    split
    · rw [List.length_cons]; omega
    · omega
theorem runL_split (v : Int) : ∀ l : List Int, l = List.replicate (runL v l) v ++ l.drop (runL v l)
  | [] => rfl
  | x :: r => by
    rw [runL]
    split
    · rename_i h
      subst h
      rw [List.replicate_succ, List.cons_append, List.drop_succ_cons, ← runL_split x r]
    · rfl
theorem runL_end (v : Int) : ∀ l : List Int, runL v l < l.length → l.getD (runL v l) v ≠ v
  | [], h => by simp [runL] at h
  | x :: r, h => by
    rw [runL] at h ⊢
    split at h
    · rename_i e
      rw [if_pos e, List.getD_cons_succ]
      exact runL_end v r (by rw [List.length_cons] at h; omega)
    · rename_i e
      rw [if_neg e, List.getD_cons_zero]
      exact e
theorem runL_full {v : Int} {l : List Int} (h : runL v l = l.length) : l = List.replicate l.length v := by
  have := runL_split v l
  rw [h, List.drop_length, List.append_nil] at this
  exact this
/-- A walk along a run: one cell more. -/
theorem runL_at {v : Int} {l : List Int} {k : Nat} (h : k < l.length) : runL v (l.drop k) = if l.getD k 0 = v then runL v (l.drop (k + 1)) + 1 else 0 := by
  rw [List.drop_eq_getElem_cons h, runL]
  simp [List.getD, List.getElem?_eq_getElem h]

/-! ### bytes -/
theorem takeBytes_one {l : List Int} (h : 10 ≤ l.length ∧ l.getD 0 0 = 1 ∧ l.getD 1 0 = 0) : takeBytes l = (numOf ((l.drop 2).take 8) :: (takeBytes (l.drop 10)).1, (takeBytes (l.drop 10)).2) := by
  rw [takeBytes, dif_pos h]
theorem takeBytes_stop {l : List Int} (h : ¬ (10 ≤ l.length ∧ l.getD 0 0 = 1 ∧ l.getD 1 0 = 0)) : takeBytes l = ([], l) := by
  rw [takeBytes, dif_neg h]
theorem takeBytes_cells : ∀ (xs : List Int) (t : List Int), (∀ x ∈ xs, 0 ≤ x ∧ x ≤ 255) → takeBytes (xs.flatMap byteCells ++ 0 :: t) = (xs, 0 :: t)
  | [], t, _ => takeBytes_stop (by simp)
  | b :: xs, t, h => by
    have hb := h b (by simp)
    have ih := takeBytes_cells xs t fun x hx => h x (by simp [hx])
    have e : (b :: xs).flatMap byteCells ++ 0 :: t = 1 :: 0 :: (bitsOf b 8 ++ (xs.flatMap byteCells ++ 0 :: t)) := by
      rw [List.flatMap_cons]; simp [byteCells]
    have hl := bitsOf_len b 8
    rw [e, takeBytes_one ⟨by simp only [List.length_cons, List.length_append, hl]; omega, by simp, by simp⟩]
    have d1 : ((1 :: 0 :: (bitsOf b 8 ++ (xs.flatMap byteCells ++ 0 :: t))).drop 2).take 8 = bitsOf b 8 := by
      simp only [List.drop_succ_cons, List.drop_zero]
      rw [List.take_append_of_le_length (by omega), List.take_of_length_le (by omega)]
    have d2 : (1 :: 0 :: (bitsOf b 8 ++ (xs.flatMap byteCells ++ 0 :: t))).drop 10 = xs.flatMap byteCells ++ 0 :: t := by
      simp only [List.drop_succ_cons]
      rw [List.drop_append_of_le_length (by omega), List.drop_of_length_le (by omega), List.nil_append]
    rw [d1, d2, ih, numOf_bitsOf b 8 hb.1 (by omega)]
theorem bits_part {l : List Int} (h : ∀ x ∈ l, 0 ≤ x ∧ x ≤ 1) : ∀ x ∈ (l.drop 2).take 8, 0 ≤ x ∧ x ≤ 1 := fun x hx => h x (List.mem_of_mem_drop (List.mem_of_mem_take hx))
theorem takeBytes_back : ∀ (n : Nat) (l : List Int), l.length ≤ n → (∀ x ∈ l, 0 ≤ x ∧ x ≤ 1) → l = (takeBytes l).1.flatMap byteCells ++ (takeBytes l).2 ∧ (∀ x ∈ (takeBytes l).1, 0 ≤ x ∧ x ≤ 255)
  | 0, l, hn, _ => by
    rw [takeBytes_stop (by omega)]
    exact ⟨rfl, by simp⟩
  | n + 1, l, hn, hb => by
    by_cases h : 10 ≤ l.length ∧ l.getD 0 0 = 1 ∧ l.getD 1 0 = 0
    · obtain ⟨e, h2⟩ := takeBytes_back n (l.drop 10) (by rw [List.length_drop]; omega) fun x hx => hb x (List.mem_of_mem_drop hx)
      rw [takeBytes_one h]
      have hp := bits_part hb
      have hl : ((l.drop 2).take 8).length = 8 := by rw [List.length_take, List.length_drop]; omega
      have hq := numOf_bound _ hp
      rw [hl] at hq
      refine ⟨?_, ?_⟩
      · obtain ⟨h10, c0, c1⟩ := h
        have s1 : l = l.getD 0 0 :: l.getD 1 0 :: l.drop 2 := by
          rcases l with _ | ⟨a, _ | ⟨b, r⟩⟩
          · simp at h10
          · simp at h10
          · rfl
        have s2 : l.drop 2 = (l.drop 2).take 8 ++ l.drop 10 := by
          conv => lhs; rw [← List.take_append_drop 8 (l.drop 2)]
          rw [List.drop_drop]
        simp only [List.flatMap_cons, byteCells]
        rw [bitsOf_numOf 8 _ hl hp, List.append_assoc, ← e]
        conv => lhs; rw [s1, c0, c1, s2]
        simp
      · intro x hx
        rcases List.mem_cons.1 hx with rfl | hx
        · omega
        · exact h2 x hx
    · rw [takeBytes_stop h]
      exact ⟨by simp, by simp⟩

/-! ### lines -/
theorem parse_line {xs : List Int} {p b a : Nat} (hx : ∀ x ∈ xs, 0 ≤ x ∧ x ≤ 255) (hp : 3 ≤ p ∧ p ≤ 15) : parseL (List.replicate b 1 ++ cellsL xs p ++ List.replicate a 1) = some (b, p, xs) := by
  obtain ⟨q, rfl⟩ : ∃ q, p = q + 1 := ⟨p - 1, by omega⟩
  have e1 : List.replicate b (1 : Int) ++ cellsL xs (q + 1) ++ List.replicate a 1 = List.replicate b 1 ++ (List.replicate (q + 1) 0 ++ 1 :: (xs.flatMap byteCells ++ 0 :: List.replicate (a + 1) 1)) := by
    simp [cellsL, List.replicate_succ]
  have r1 : runL 1 (List.replicate b 1 ++ (List.replicate (q + 1) 0 ++ 1 :: (xs.flatMap byteCells ++ 0 :: List.replicate (a + 1) 1))) = b := by
    rw [runL_rep, List.replicate_succ, List.cons_append, runL_no (by omega)]; omega
  have d1 : (List.replicate b (1 : Int) ++ (List.replicate (q + 1) 0 ++ 1 :: (xs.flatMap byteCells ++ 0 :: List.replicate (a + 1) 1))).drop b = List.replicate (q + 1) 0 ++ 1 :: (xs.flatMap byteCells ++ 0 :: List.replicate (a + 1) 1) := by
    rw [List.drop_append_of_le_length (by simp), List.drop_of_length_le (by simp), List.nil_append]
  have r2 : runL 0 (List.replicate (q + 1) 0 ++ 1 :: (xs.flatMap byteCells ++ 0 :: List.replicate (a + 1) 1)) = q + 1 := by
    rw [runL_rep, runL_no (by omega)]
  have d2 : (List.replicate b (1 : Int) ++ (List.replicate (q + 1) 0 ++ 1 :: (xs.flatMap byteCells ++ 0 :: List.replicate (a + 1) 1))).drop (b + (q + 1) + 1) = xs.flatMap byteCells ++ 0 :: List.replicate (a + 1) 1 := by
    rw [show b + (q + 1) + 1 = b + ((q + 1) + 1) from by omega, ← List.drop_drop, d1, ← List.drop_drop, List.drop_append_of_le_length (by simp), List.drop_of_length_le (l := List.replicate (q + 1) (0 : Int)) (by simp), List.nil_append]
    rfl
  rw [e1]
  unfold parseL
  rw [r1, d1, r2, d2, takeBytes_cells xs _ hx]
  rw [if_pos]
  refine ⟨isPre_iff.2 (by omega), ?_, by simp, rfl, ?_⟩
  · simp only [List.length_append, List.length_replicate, List.length_cons]; omega
  · simp only [List.drop_succ_cons, List.drop_zero, List.length_cons, List.length_replicate]
    rw [runL_all]; omega
theorem parse_back {ys : List Int} (hb : ∀ x ∈ ys, 0 ≤ x ∧ x ≤ 1) {i p : Nat} {d : List Int} (h : parseL ys = some (i, p, d)) :
    (3 ≤ p ∧ p ≤ 15) ∧ (∀ x ∈ d, 0 ≤ x ∧ x ≤ 255) ∧ i + (p + 3 + 10 * d.length) ≤ ys.length ∧ ys = List.replicate i 1 ++ cellsL d p ++ List.replicate (ys.length - i - (p + 3 + 10 * d.length)) 1 := by
  unfold parseL at h
  split at h
  · rename_i hc
    obtain ⟨h1, h2, h3, h4, h5⟩ := hc
    simp only [Option.some.injEq, Prod.mk.injEq] at h
    obtain ⟨hi, hp, hd⟩ := h
    rw [hi] at h1 h2 h3 h4 h5 hp hd
    rw [hp] at h1 h2 h3 h4 h5 hd
    have s1 := runL_split 1 ys
    rw [hi] at s1
    have s2 := runL_split 0 (ys.drop i)
    rw [hp, List.drop_drop] at s2
    have hlt : i + p < ys.length := h2
    have hend := runL_end 0 (ys.drop i) (by rw [hp, List.length_drop]; omega)
    rw [hp] at hend
    have hone : ys.drop (i + p) = 1 :: ys.drop (i + p + 1) := by
      rw [List.drop_eq_getElem_cons hlt]
      have hm := hb _ (List.getElem_mem hlt)
      have : ys[i + p] ≠ 0 := by
        have e : (ys.drop i).getD p 0 = ys[i + p] := by simp [List.getD, List.getElem?_drop, List.getElem?_eq_getElem hlt]
        rwa [e] at hend
      rw [show ys[i + p] = 1 from by omega]
    obtain ⟨s3, hby⟩ := takeBytes_back _ (ys.drop (i + p + 1)) (Nat.le_refl _) fun x hx => hb x (List.mem_of_mem_drop hx)
    rw [hd] at s3 hby
    obtain ⟨R, hR⟩ : ∃ R, (takeBytes (ys.drop (i + p + 1))).2 = R := ⟨_, rfl⟩
    rw [hR] at s3 h3 h4 h5
    obtain ⟨n, hn⟩ : ∃ n, R.length = n + 2 := ⟨R.length - 2, by omega⟩
    have s4 : R = 0 :: List.replicate (n + 1) 1 := by
      rcases R with _ | ⟨z, R⟩
      · simp at h3
      · simp only [List.getD_cons_zero] at h4
        simp only [List.drop_succ_cons, List.drop_zero, List.length_cons, Nat.add_sub_cancel] at h5
        have := runL_full h5
        simp only [List.length_cons] at hn
        rw [h4, this, show R.length = n + 1 from by omega]
    have e : ys = List.replicate i 1 ++ (List.replicate p 0 ++ 1 :: (d.flatMap byteCells ++ 0 :: List.replicate (n + 1) 1)) := by
      conv => lhs; rw [s1, s2, hone, s3, s4]
    have hlen : ys.length = i + (p + 3 + 10 * d.length) + n := by
      conv => lhs; rw [e]
      simp only [List.length_append, List.length_replicate, List.length_cons, flatCells_len]; omega
    refine ⟨isPre_iff.1 h1 |>.imp (by omega) (by omega), hby, by omega, ?_⟩
    rw [show ys.length - i - (p + 3 + 10 * d.length) = n from by omega]
    conv => lhs; rw [e]
    simp [cellsL, List.replicate_succ]
  · cases h
end Go.Proofs.Ytilkopbfbmibgaa
