/-
  The plain functions of chapter 6, and what its laws say of them. No program is named here.
-/
import Derived.Test.YtbdfnkhmnglpbaaSt
import Derived.Test.YtbdfnkhmnglpbaaVecs
namespace Go.Proofs.Ytbdfnkhmnglpbaa

/-- A frame: its kind, its request, the five numbers of its state, its data. -/
structure Fr where
  kind : Int
  req : Int
  t : Int
  m : Int
  r : Int
  s : Int
  k : Int
  data : List Int
def Fr.zero : Fr := ⟨0, 0, 0, 0, 0, 0, 0, []⟩
def kindOk (a : Int) : Bool := inRange 0 3 a
def hasState (a : Int) : Bool := kindOk a && decide (a ≠ 0)
def hasData (a : Int) : Bool := decide (a = 0 ∨ a = 2)
def sizeOk (a n : Int) : Bool := if a = 0 then inRange 0 32 n else if a = 2 then inRange 1 32 n else decide (n = 0)
/-- The state, and the request of a cold frame, are as the kind asks. -/
def stateOk (a q t m r s k : Int) : Bool :=
  if a = 0 then decide (t = 0 ∧ m = 0 ∧ r = 0 ∧ s = 0 ∧ k = 0) else if a = 3 then decide (q = 0) && (isState t m r s k && (decide (m = 0) && decide ((nodesTo k.toNat 32).length = 1))) else isState t m r s k
def isFrame (f : Fr) : Bool := kindOk f.kind && (inRange 0 7 f.req && (stateOk f.kind f.req f.t f.m f.r f.s f.k && (sizeOk f.kind f.data.length && isBytes f.data)))
def stBytes (t m r s k : Int) : List Int := bytesTo (stateBits t m r s k) 8
def frameBytes (f : Fr) : List Int := [f.kind * 64 + f.req * 8] ++ (if hasState f.kind = true then stBytes f.t f.m f.r f.s f.k else []) ++ (if hasData f.kind = true then [(f.data.length : Int)] ++ f.data else [])
def frameBody (f : Fr) : List Int × Int := if isFrame f = true then (frameBytes f, 0) else ([], 1)
def bitsOf8 (xs : List Int) : List Int := xs.flatMap (bitsOf · 8)
/-- What is read of a list, whatever follows. -/
def readFrame (xs : List Int) : Option Fr :=
  if xs.length = 0 then none
  else if hasState (xs.getD 0 0 / 64) = true then
    if xs.length < 9 then none
    else if hasData (xs.getD 0 0 / 64) = true then
      if xs.length < 10 then none
      else some ⟨xs.getD 0 0 / 64, xs.getD 0 0 / 8 % 8, numIn (bitsOf8 ((xs.drop 1).take 8)) 0 16, numIn (bitsOf8 ((xs.drop 1).take 8)) 16 4, numIn (bitsOf8 ((xs.drop 1).take 8)) 20 4, numIn (bitsOf8 ((xs.drop 1).take 8)) 24 8, numIn (bitsOf8 ((xs.drop 1).take 8)) 32 32, xs.drop 10⟩
    else some ⟨xs.getD 0 0 / 64, xs.getD 0 0 / 8 % 8, numIn (bitsOf8 ((xs.drop 1).take 8)) 0 16, numIn (bitsOf8 ((xs.drop 1).take 8)) 16 4, numIn (bitsOf8 ((xs.drop 1).take 8)) 20 4, numIn (bitsOf8 ((xs.drop 1).take 8)) 24 8, numIn (bitsOf8 ((xs.drop 1).take 8)) 32 32, []⟩
  else if hasData (xs.getD 0 0 / 64) = true then
    if xs.length < 2 then none
    else some ⟨xs.getD 0 0 / 64, xs.getD 0 0 / 8 % 8, 0, 0, 0, 0, 0, xs.drop 2⟩
  else some ⟨xs.getD 0 0 / 64, xs.getD 0 0 / 8 % 8, 0, 0, 0, 0, 0, []⟩
def frameFrom (xs : List Int) : Fr × Int :=
  if isBytes xs = false then (Fr.zero, 2)
  else match readFrame xs with
    | none => (Fr.zero, 6)
    | some f => if isFrame f = true ∧ frameBytes f = xs then (f, 0) else (Fr.zero, 6)
def bodySize (a n : Int) : Int × Int :=
  if kindOk a = false then (0, 1) else if sizeOk a n = false then (0, 2) else (1 + (if hasState a = true then 8 else 0) + (if hasData a = true then 1 + n else 0), 0)
def kindOfHead (h : Int) : Int × Int := if inRange 0 255 h = true then (h / 64, 0) else (0, 2)

theorem inRange_iff {lo hi x : Int} : inRange lo hi x = true ↔ lo ≤ x ∧ x ≤ hi := by simp [inRange]
theorem kindOk_four {a : Int} (h : kindOk a = true) : a = 0 ∨ a = 1 ∨ a = 2 ∨ a = 3 := by
  have := inRange_iff.1 h; omega
theorem isFrame_parts {f : Fr} (h : isFrame f = true) : kindOk f.kind = true ∧ (0 ≤ f.req ∧ f.req ≤ 7) ∧ stateOk f.kind f.req f.t f.m f.r f.s f.k = true ∧ sizeOk f.kind f.data.length = true ∧ isBytes f.data = true := by
  unfold isFrame at h
  simp only [Bool.and_eq_true] at h
  obtain ⟨h1, h2, h3, h4, h5⟩ := h
  exact ⟨h1, inRange_iff.1 h2, h3, h4, h5⟩
theorem stateOk_state {a q t m r s k : Int} (h : stateOk a q t m r s k = true) (ha : a ≠ 0) : isState t m r s k = true := by
  unfold stateOk at h
  rw [if_neg ha] at h
  split at h
  · simp only [Bool.and_eq_true] at h; exact h.2.1
  · exact h
theorem stateOk_zero {q t m r s k : Int} (h : stateOk 0 q t m r s k = true) : t = 0 ∧ m = 0 ∧ r = 0 ∧ s = 0 ∧ k = 0 := by
  unfold stateOk at h
  rw [if_pos rfl] at h
  exact of_decide_eq_true h
theorem bits_bytes (xs : List Int) (hb : ∀ x ∈ xs, 0 ≤ x ∧ x ≤ 1) (n : Nat) (hn : 8 * n ≤ xs.length) : bitsOf8 (bytesTo xs n) = xs.take (8 * n) := by
  unfold bitsOf8
  induction n with
  | zero => simp [bytesTo]
  | succ n ih =>
    have ih := ih (by omega)
    have e : bytesTo xs (n + 1) = bytesTo xs n ++ [numOf ((xs.drop (8 * n)).take 8)] := by simp [bytesTo, List.range_succ]
    rw [e, List.flatMap_append, ih, List.flatMap_cons, List.flatMap_nil, List.append_nil, bitsOf_numOf 8 _ (by rw [List.length_take, List.length_drop]; omega) (fun x hx => hb x (List.mem_of_mem_drop (List.mem_of_mem_take hx))), take_glue]
    rfl
theorem bytesTo_le (xs : List Int) (hb : ∀ x ∈ xs, 0 ≤ x ∧ x ≤ 1) (n : Nat) : ∀ x ∈ bytesTo xs n, 0 ≤ x ∧ x ≤ 255 := by
  intro x hx
  unfold bytesTo at hx
  obtain ⟨i, -, rfl⟩ := List.mem_map.1 hx
  have h := numOf_bound ((xs.drop (8 * i)).take 8) (fun x hx => hb x (List.mem_of_mem_drop (List.mem_of_mem_take hx)))
  have hl : ((xs.drop (8 * i)).take 8).length ≤ 8 := by rw [List.length_take]; omega
  have hp : (2 : Int) ^ ((xs.drop (8 * i)).take 8).length ≤ 2 ^ 8 := by have := Nat.pow_le_pow_right (n := 2) (by omega) hl; exact_mod_cast this
  omega
theorem stBytes_len (t m r s k : Int) : (stBytes t m r s k).length = 8 := by simp [stBytes, bytesTo]
theorem stBytes_le (t m r s k : Int) : ∀ x ∈ stBytes t m r s k, 0 ≤ x ∧ x ≤ 255 := bytesTo_le _ (stateBits_bits _ _ _ _ _) 8
theorem stBytes_bits (t m r s k : Int) : bitsOf8 (stBytes t m r s k) = stateBits t m r s k := by
  unfold stBytes
  rw [bits_bytes _ (stateBits_bits _ _ _ _ _) 8 (by rw [stateBits_len]; omega)]
  exact List.take_of_length_le (by rw [stateBits_len]; omega)
theorem frameBytes_len (f : Fr) : (frameBytes f).length = 1 + (if hasState f.kind = true then 8 else 0) + (if hasData f.kind = true then 1 + f.data.length else 0) := by
  unfold frameBytes
  cases hasState f.kind <;> cases hasData f.kind <;> simp [stBytes_len] <;> omega
theorem sizeOk_le {a n : Int} (h : sizeOk a n = true) : 0 ≤ n ∧ n ≤ 32 := by
  unfold sizeOk at h
  split at h
  · exact inRange_iff.1 h
  · split at h
    · have := inRange_iff.1 h; omega
    · have := of_decide_eq_true h; omega
theorem sizeOk_none {a n : Int} (h : sizeOk a n = true) (hd : hasData a = false) : n = 0 := by
  unfold hasData at hd
  have hd := of_decide_eq_false hd
  unfold sizeOk at h
  rw [if_neg (fun e => hd (.inl e)), if_neg (fun e => hd (.inr e))] at h
  exact of_decide_eq_true h
theorem frameBytes_small {f : Fr} (h : isFrame f = true) : (frameBytes f).length ≤ 42 := by
  have := sizeOk_le (isFrame_parts h).2.2.2.1
  rw [frameBytes_len]
  split <;> split <;> omega
theorem frameBody_len (f : Fr) : (frameBody f).1.length ≤ 42 := by
  unfold frameBody
  split
  · exact frameBytes_small ‹_›
  · simp
theorem frameBytes_bytes {f : Fr} (h : isFrame f = true) : isBytes (frameBytes f) = true := by
  have hs := frameBytes_small h
  obtain ⟨h1, h2, h3, h4, h5⟩ := isFrame_parts h
  have h4 := sizeOk_le h4
  have h5 := (isBytes_iff.1 h5).2
  refine isBytes_iff.2 ⟨by omega, fun x hx => ?_⟩
  have hk := kindOk_four h1
  unfold frameBytes at hx
  rw [List.mem_append, List.mem_append] at hx
  rcases hx with (hx | hx) | hx
  · rw [List.mem_singleton] at hx; omega
  · split at hx
    · exact stBytes_le _ _ _ _ _ x hx
    · cases hx
  · split at hx
    · rw [List.mem_append, List.mem_singleton] at hx
      rcases hx with rfl | hx
      · omega
      · exact h5 x hx
    · cases hx
theorem frameBytes_head (f : Fr) : (frameBytes f).getD 0 0 = f.kind * 64 + f.req * 8 := by unfold frameBytes; rw [List.append_assoc]; rfl
theorem head_kind {a q : Int} (hq : 0 ≤ q ∧ q ≤ 7) : (a * 64 + q * 8) / 64 = a := by omega
theorem head_req {a q : Int} (hq : 0 ≤ q ∧ q ≤ 7) : (a * 64 + q * 8) / 8 % 8 = q := by omega
theorem read_frame {f : Fr} (h : isFrame f = true) : readFrame (frameBytes f) = some f := by
  obtain ⟨h1, h2, h3, h4, h5⟩ := isFrame_parts h
  have hl := frameBytes_len f
  have hh := frameBytes_head f
  have hn := sizeOk_none h4
  have hst := stateOk_state h3
  obtain ⟨a, q, t, m, r, s, k, d⟩ := f
  simp only at h1 h2 h3 h4 h5 hl hh hn hst
  have hk := kindOk_four h1
  unfold readFrame
  rw [hh, head_kind h2, head_req h2, if_neg (by rw [hl]; omega)]
  cases hS : hasState a with
  | true =>
    have ha : a ≠ 0 := by unfold hasState at hS; simp only [Bool.and_eq_true, decide_eq_true_eq] at hS; exact hS.2
    obtain ⟨p1, p2, p3, p4, p5⟩ := stateBits_parts (hst ha)
    rw [hS] at hl
    have e8 : ((frameBytes ⟨a, q, t, m, r, s, k, d⟩).drop 1).take 8 = stBytes t m r s k := by
      unfold frameBytes
      simp only [hS, if_true, List.cons_append, List.nil_append, List.drop_succ_cons, List.drop_zero]
      rw [List.take_left' (stBytes_len _ _ _ _ _)]
    rw [if_pos rfl, if_neg (by rw [hl, if_pos rfl]; omega), e8, stBytes_bits, p1, p2, p3, p4, p5]
    cases hD : hasData a with
    | true =>
      rw [hD] at hl
      rw [if_pos rfl, if_neg (by rw [hl, if_pos rfl, if_pos rfl]; omega)]
      have e10 : (frameBytes ⟨a, q, t, m, r, s, k, d⟩).drop 10 = d := by
        have e : frameBytes ⟨a, q, t, m, r, s, k, d⟩ = ([a * 64 + q * 8] ++ stBytes t m r s k ++ [(d.length : Int)]) ++ d := by unfold frameBytes; simp only [hS, hD, if_true, List.append_assoc]
        rw [e]
        exact List.drop_left' (by simp [stBytes_len])
      rw [e10]
    | false =>
      rw [if_neg (by simp)]
      have hd : d = [] := List.length_eq_zero_iff.1 (by have := hn hD; omega)
      rw [hd]
  | false =>
    have ha : a = 0 := by unfold hasState at hS; rw [h1] at hS; simpa using hS
    subst ha
    obtain ⟨rfl, rfl, rfl, rfl, rfl⟩ := stateOk_zero h3
    rw [hS] at hl
    rw [if_neg (by simp), if_pos (by rfl), if_neg (by rw [hl, if_neg (by simp), if_pos (by rfl)]; omega)]
    have e2 : (frameBytes ⟨0, q, 0, 0, 0, 0, 0, d⟩).drop 2 = d := by
      unfold frameBytes
      simp only [hS]
      rfl
    rw [e2]
theorem frame_round {f : Fr} (h : isFrame f = true) : frameFrom (frameBytes f) = (f, 0) := by
  unfold frameFrom
  rw [if_neg (by rw [frameBytes_bytes h]; simp), read_frame h]
  simp [h]
theorem from_frame {xs : List Int} {f : Fr} (h : frameFrom xs = (f, 0)) : isFrame f = true ∧ frameBytes f = xs := by
  unfold frameFrom at h
  split at h
  · simp at h
  · split at h
    · simp at h
    · split at h
      · rename_i h1
        simp only [Prod.mk.injEq, and_true] at h
        rw [← h]; exact h1
      · simp at h
theorem body_yes {f : Fr} {xs : List Int} (h : frameBody f = (xs, 0)) : isFrame f = true ∧ frameBytes f = xs := by
  unfold frameBody at h
  split at h
  · simp only [Prod.mk.injEq, and_true] at h; exact ⟨‹_›, h⟩
  · simp at h
theorem body_size {f : Fr} (h : isFrame f = true) : bodySize f.kind f.data.length = (((frameBytes f).length : Int), 0) := by
  obtain ⟨h1, -, -, h4, -⟩ := isFrame_parts h
  unfold bodySize
  rw [h1, h4, if_neg (by simp), if_neg (by simp), frameBytes_len]
  cases hasState f.kind <;> cases hasData f.kind <;> simp
theorem head_of {f : Fr} (h : isFrame f = true) : kindOfHead ((frameBytes f).getD 0 0) = (f.kind, 0) := by
  obtain ⟨h1, h2, -, -, -⟩ := isFrame_parts h
  have hk := kindOk_four h1
  rw [frameBytes_head]
  unfold kindOfHead
  rw [if_pos (inRange_iff.2 ⟨by omega, by omega⟩), head_kind h2]
theorem frameFrom_len (xs : List Int) : (frameFrom xs).1.data.length ≤ 32 := by
  obtain ⟨f, c, h⟩ : ∃ f c, frameFrom xs = (f, c) := ⟨_, _, rfl⟩
  rw [h]
  unfold frameFrom at h
  split at h
  · simp only [Prod.mk.injEq] at h; rw [← h.1]; simp [Fr.zero]
  · split at h
    · simp only [Prod.mk.injEq] at h; rw [← h.1]; simp [Fr.zero]
    · split at h
      · rename_i h1
        simp only [Prod.mk.injEq] at h
        rw [← h.1]
        have := sizeOk_le (isFrame_parts h1.1).2.2.2.1
        simp only; omega
      · simp only [Prod.mk.injEq] at h; rw [← h.1]; simp [Fr.zero]
end Go.Proofs.Ytbdfnkhmnglpbaa
