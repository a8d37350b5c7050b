/-
  The standard code: one to three wrong bits are found. No program is named here.
  The plain functions of chapter 7, and what its laws say of them. No program is named here.
  Chapter 7: wrong bits of a sealed frame. No program is named here.
  Chapter 7: the differences of two lists as flips of noughts, and their number. No program is named here.
-/
import Derived.Test.YtbdfnkhmnglpbaaReg
import Derived.Test.YtbdfnkhmnglpbaaFr1
namespace Go.Proofs.Ytbdfnkhmnglpbaa
section

/-- The polynomial of the standard code. -/
def stdG : BitVec 24 := 6122955#24
section
variable {W : Nat} {g : BitVec W}
/-- In the next n steps the register is not the polynomial. -/
def noRep (g : BitVec W) : Nat → BitVec W → Bool
  | 0, _ => true
  | n + 1, r => (fb g r false != g) && noRep g n (fb g r false)
theorem noRep_tail (n k : Nat) (h : noRep g n (tail g k) = true) : ∀ m, k < m → m ≤ k + n → tail g m ≠ g := by
  induction n generalizing k with
  | zero => intro m h1 h2; omega
  | succ n ih =>
    unfold noRep at h
    rw [← tail_succ, Bool.and_eq_true, bne_iff_ne] at h
    intro m h1 h2
    by_cases hm : m = k + 1
    · rw [hm]; exact h.1
    · exact ih (k + 1) h.2 m (by omega) (by omega)
end
/-- The same by numbers below 2 to 24. -/
def stepN (r : Nat) : Nat := if 8388608 ≤ r then (r * 2 % 16777216) ^^^ 6122955 else r * 2
def noRepN : Nat → Nat → Bool
  | 0, _ => true
  | n + 1, r => if Nat.beq (stepN r) 6122955 then false else noRepN n (stepN r)
theorem step_std (r : BitVec 24) : (fb stdG r false).toNat = stepN r.toNat := by
  unfold fb stepN stdG
  rw [Bool.xor_false]
  have hm : r.msb = decide (8388608 ≤ r.toNat) := by rw [BitVec.msb_eq_decide]
  rw [hm]
  have hr := r.isLt
  by_cases h : 8388608 ≤ r.toNat
  · simp only [h, decide_true, if_true, BitVec.toNat_xor, BitVec.toNat_shiftLeft, Nat.shiftLeft_eq]
    rfl
  · simp only [h, decide_false, Bool.false_eq_true, if_false, BitVec.xor_zero, BitVec.toNat_shiftLeft, Nat.shiftLeft_eq]
    omega
theorem noRep_std (n : Nat) (r : BitVec 24) (h : noRepN n r.toNat = true) : noRep stdG n r = true := by
  induction n generalizing r with
  | zero => rfl
  | succ n ih =>
    unfold noRepN at h
    unfold noRep
    split at h
    · cases h
    · rename_i hne
      rw [Bool.and_eq_true, bne_iff_ne]
      refine ⟨fun e => hne ?_, ih _ (by rw [step_std]; exact h)⟩
      have := congrArg BitVec.toNat e
      rw [step_std] at this
      rw [this]
      rfl
theorem std_tail : ∀ m, 0 < m → m ≤ 1000 → tail stdG m ≠ stdG := fun m h1 h2 =>
  noRep_tail 1000 0 (noRep_std 1000 stdG (by decide +kernel)) m h1 (by omega)
theorem std_order : 1000 < order stdG := by
  rcases Nat.lt_or_ge 1000 (order stdG) with h | h
  · exact h
  · exfalso
    have hl := ord_le (g := stdG) 5000 1
    exact std_tail (order stdG) hl.1 h (ord_at 5000 1 (by unfold order at h; omega))
theorem burst_len {xs : List Int} : (burst xs).2 ≤ xs.length := by
  rcases Nat.eq_zero_or_pos (burst xs).2 with h | h
  · omega
  · have := (burst_parts xs h).1; omega
/-- One to three wrong bits are found. -/
theorem std_found {xs : List Int} (hb : ∀ x ∈ xs, 0 ≤ x ∧ x ≤ 1) (hl : xs.length ≤ 1000) (h1 : 0 < weight xs) (h3 : weight xs ≤ 3) : fbs stdG 0#24 (bl xs) ≠ 0#24 := by
  have hg : stdG.getLsbD 0 = true := by decide
  have hw : weight (bitsOf (stdG.toNat : Int) 24) % 2 = 1 := by decide +kernel
  have := std_order
  have hbl := burst_len (xs := xs)
  rcases (show weight xs = 1 ∨ weight xs = 2 ∨ weight xs = 3 from by omega) with h | h | h
  · exact found_synd hg hb h1 (.inl ⟨by rw [h]; rfl, hw⟩)
  · exact found_synd hg hb h1 (.inr (.inr ⟨h, by omega⟩))
  · exact found_synd hg hb h1 (.inl ⟨by rw [h]; rfl, hw⟩)
end

section

def regS (id : Int) : BitVec 24 := BitVec.ofNat 24 id.toNat
/-- What is fed ahead of the body. -/
def fedFirst (a t m r s k : Int) : List Int := if a = 0 then stateBits t m r s k else []
def sealNum (a id t m r s k : Int) (body : List Int) : Int := regOf stdG (regS id) (fedFirst a t m r s k ++ bitsOf8 body)
def three (x : Int) : List Int := [x / 65536, x / 256 % 256, x % 256]
def sealCode (f : Fr) (id t m r s k : Int) : Int := if isFrame f = false ∨ isState t m r s k = false then 1 else if inRange 0 16777215 id = false then 2 else 0
def sealFrame (f : Fr) (id t m r s k : Int) : List Int × Int := if sealCode f id t m r s k = 0 then (frameBytes f ++ three (sealNum f.kind id t m r s k (frameBytes f)), 0) else ([], sealCode f id t m r s k)
def sealNumber (f : Fr) (id t m r s k : Int) : Int × Int := if sealCode f id t m r s k = 0 then (sealNum f.kind id t m r s k (frameBytes f), 0) else (0, sealCode f id t m r s k)
def sealSize (a n : Int) : Int × Int := if (bodySize a n).2 = 0 then ((bodySize a n).1 + 3, 0) else (0, (bodySize a n).2)
def lastThree (xs : List Int) : Int := xs.getD (xs.length - 3) 0 * 65536 + xs.getD (xs.length - 3 + 1) 0 * 256 + xs.getD (xs.length - 3 + 2) 0
def openFrame (xs : List Int) (id t m r s k : Int) : Fr × Int :=
  if isState t m r s k = false then (Fr.zero, 1)
  else if inRange 0 16777215 id = false ∨ isBytes xs = false then (Fr.zero, 2)
  else if xs.length < 4 then (Fr.zero, 6)
  else if sealNum (xs.getD 0 0 / 64) id t m r s k (xs.take (xs.length - 3)) ≠ lastThree xs then (Fr.zero, 7)
  else if (frameFrom (xs.take (xs.length - 3))).2 ≠ 0 then (Fr.zero, 6)
  else if hasState (frameFrom (xs.take (xs.length - 3))).1.kind = true ∧ ¬ ((frameFrom (xs.take (xs.length - 3))).1.t = t ∧ (frameFrom (xs.take (xs.length - 3))).1.m = m ∧ (frameFrom (xs.take (xs.length - 3))).1.r = r ∧ (frameFrom (xs.take (xs.length - 3))).1.s = s ∧ (frameFrom (xs.take (xs.length - 3))).1.k = k) then (Fr.zero, 5)
  else ((frameFrom (xs.take (xs.length - 3))).1, 0)

theorem sealNum_in (a id t m r s k : Int) (body : List Int) : 0 ≤ sealNum a id t m r s k body ∧ sealNum a id t m r s k body ≤ 16777215 := reg_lt (by omega) _
theorem three_len (x : Int) : (three x).length = 3 := rfl
theorem three_bytes {x : Int} (h : 0 ≤ x ∧ x ≤ 16777215) : ∀ y ∈ three x, 0 ≤ y ∧ y ≤ 255 := by
  intro y hy
  simp only [three, List.mem_cons, List.mem_nil_iff, or_false] at hy
  rcases hy with rfl | rfl | rfl <;> omega
theorem sealCode_0 {f : Fr} {id t m r s k : Int} (h : sealCode f id t m r s k = 0) : isFrame f = true ∧ isState t m r s k = true ∧ inRange 0 16777215 id = true := by
  unfold sealCode at h
  split at h
  · omega
  · rename_i h1
    split at h
    · omega
    · rename_i h2
      exact ⟨by simpa using fun e => h1 (.inl e), by simpa using fun e => h1 (.inr e), by simpa using h2⟩
theorem sealCode_put {f : Fr} {id t m r s k : Int} (h1 : isFrame f = true) (h2 : isState t m r s k = true) (h3 : inRange 0 16777215 id = true) : sealCode f id t m r s k = 0 := by
  unfold sealCode
  rw [if_neg (by simp [h1, h2]), if_neg (by simp [h3])]
theorem seal_yes {f : Fr} {id t m r s k : Int} {out : List Int} (h : sealFrame f id t m r s k = (out, 0)) : sealCode f id t m r s k = 0 ∧ out = frameBytes f ++ three (sealNum f.kind id t m r s k (frameBytes f)) := by
  unfold sealFrame at h
  split at h
  · rename_i h1
    simp only [Prod.mk.injEq, and_true] at h
    exact ⟨h1, h.symm⟩
  · rename_i h1
    simp only [Prod.mk.injEq] at h
    exact absurd h.2 h1
theorem sealFrame_len (f : Fr) (id t m r s k : Int) : (sealFrame f id t m r s k).1.length ≤ 45 := by
  unfold sealFrame
  split
  · rename_i h
    have := frameBytes_small (sealCode_0 h).1
    simp only [List.length_append, three_len]; omega
  · simp
/-- The last three of a list behind which three bytes have been laid. -/
theorem last_three (b : List Int) (x : Int) (_ : 0 ≤ x ∧ x ≤ 16777215) : lastThree (b ++ three x) = x ∧ (b ++ three x).take ((b ++ three x).length - 3) = b ∧ (b ++ three x).length = b.length + 3 := by
  have hl : (b ++ three x).length = b.length + 3 := by rw [List.length_append, three_len]
  have hn : (b ++ three x).length - 3 = b.length := by omega
  have hg : ∀ i, (b ++ three x).getD (b.length + i) 0 = (three x).getD i 0 := fun i => by simp only [List.getD]; rw [List.getElem?_append_right (Nat.le_add_right _ _), Nat.add_sub_cancel_left]
  refine ⟨?_, ?_, hl⟩
  · unfold lastThree
    have h0 := hg 0
    have h1 := hg 1
    have h2 := hg 2
    rw [Nat.add_zero] at h0
    rw [hn, h0, h1, h2]
    show x / 65536 * 65536 + x / 256 % 256 * 256 + x % 256 = x
    omega
  · rw [hn]; exact List.take_left' rfl
theorem list_three {α : Type} {cs : List α} (h : cs.length = 3) : ∃ a b c, cs = [a, b, c] := by
  match cs, h with
  | [a, b, c], _ => exact ⟨a, b, c, rfl⟩
theorem last_of {xs : List Int} (hl : 3 ≤ xs.length) (hb : ∀ x ∈ xs, 0 ≤ x ∧ x ≤ 255) : ∃ p q r, xs.drop (xs.length - 3) = [p, q, r] ∧ (0 ≤ p ∧ p ≤ 255) ∧ (0 ≤ q ∧ q ≤ 255) ∧ (0 ≤ r ∧ r ≤ 255) ∧ lastThree xs = p * 65536 + q * 256 + r := by
  obtain ⟨p, q, r, hd⟩ := list_three (cs := xs.drop (xs.length - 3)) (by rw [List.length_drop]; omega)
  have hm : ∀ y ∈ [p, q, r], 0 ≤ y ∧ y ≤ 255 := fun y hy => hb y (List.mem_of_mem_drop (by rw [hd]; exact hy))
  have hg : ∀ i, xs.getD (xs.length - 3 + i) 0 = [p, q, r].getD i 0 := fun i => by rw [← hd]; simp only [List.getD]; rw [List.getElem?_drop]
  have h0 := hg 0
  rw [Nat.add_zero] at h0
  refine ⟨p, q, r, hd, hm p (by simp), hm q (by simp), hm r (by simp), ?_⟩
  unfold lastThree
  rw [h0, hg 1, hg 2]
  rfl
theorem lastThree_in {xs : List Int} (hl : 3 ≤ xs.length) (hb : ∀ x ∈ xs, 0 ≤ x ∧ x ≤ 255) : 0 ≤ lastThree xs ∧ lastThree xs ≤ 16777215 := by
  obtain ⟨p, q, r, -, h1, h2, h3, e⟩ := last_of hl hb
  omega
theorem three_back {xs : List Int} (hl : 3 ≤ xs.length) (hb : ∀ x ∈ xs, 0 ≤ x ∧ x ≤ 255) : xs.take (xs.length - 3) ++ three (lastThree xs) = xs := by
  obtain ⟨p, q, r, hd, h1, h2, h3, e⟩ := last_of hl hb
  have e1 : lastThree xs / 65536 = p := by omega
  have e2 : lastThree xs / 256 % 256 = q := by omega
  have e3 : lastThree xs % 256 = r := by omega
  have e4 : three (lastThree xs) = xs.drop (xs.length - 3) := by unfold three; rw [e1, e2, e3, hd]
  rw [e4, List.take_append_drop]
theorem isBytes_app {xs ys : List Int} (h1 : isBytes xs = true) (h2 : ∀ y ∈ ys, 0 ≤ y ∧ y ≤ 255) (hl : xs.length + ys.length ≤ 1024) : isBytes (xs ++ ys) = true := by
  refine isBytes_iff.2 ⟨by rw [List.length_append]; exact hl, fun x hx => ?_⟩
  rcases List.mem_append.1 hx with h | h
  · exact (isBytes_iff.1 h1).2 x h
  · exact h2 x h
/-- A sealed frame is opened with the same schedule and state. -/
theorem seal_open {f : Fr} {id t m r s k : Int} {out : List Int} (h : sealFrame f id t m r s k = (out, 0)) :
    openFrame out id t m r s k = if hasState f.kind = true ∧ ¬ (f.t = t ∧ f.m = m ∧ f.r = r ∧ f.s = s ∧ f.k = k) then (Fr.zero, 5) else (f, 0) := by
  obtain ⟨hc, rfl⟩ := seal_yes h
  obtain ⟨h1, h2, h3⟩ := sealCode_0 hc
  have hx := sealNum_in f.kind id t m r s k (frameBytes f)
  obtain ⟨e1, e2, e3⟩ := last_three (frameBytes f) _ hx
  have hs := frameBytes_small h1
  have hb := isBytes_app (frameBytes_bytes h1) (three_bytes hx) (by rw [three_len]; omega)
  have hp := isFrame_parts h1
  have hlen := frameBytes_len f
  have hh : (frameBytes f ++ three (sealNum f.kind id t m r s k (frameBytes f))).getD 0 0 / 64 = f.kind := by
    have h0 : (frameBytes f ++ three (sealNum f.kind id t m r s k (frameBytes f))).getD 0 0 = (frameBytes f).getD 0 0 := by
      have : 0 < (frameBytes f).length := by omega
      simp only [List.getD]; rw [List.getElem?_append_left this]
    rw [h0, frameBytes_head]
    exact head_kind hp.2.1
  unfold openFrame
  rw [e1, e2, hh, frame_round h1]
  rw [if_neg (by simp [h2]), if_neg (by simp [h3, hb]), if_neg (by rw [e3]; omega), if_neg (by simp), if_neg (by simp)]
/-- A frame that has been opened is sealed as the same bytes. -/
theorem open_seal {xs : List Int} {f : Fr} {id t m r s k : Int} (h : openFrame xs id t m r s k = (f, 0)) : sealFrame f id t m r s k = (xs, 0) := by
  unfold openFrame at h
  split at h
  · simp at h
  rename_i h1
  split at h
  · simp at h
  rename_i h2
  split at h
  · simp at h
  rename_i h3
  split at h
  · simp at h
  rename_i h4
  split at h
  · simp at h
  rename_i h5
  split at h
  · simp at h
  simp only [Prod.mk.injEq, and_true] at h
  have hff : frameFrom (xs.take (xs.length - 3)) = (f, 0) := by
    have : (frameFrom (xs.take (xs.length - 3))).2 = 0 := by simpa using h5
    rw [← h, ← this]
  obtain ⟨g1, g2⟩ := from_frame hff
  have hst : isState t m r s k = true := by simpa using h1
  have hid : inRange 0 16777215 id = true := by simpa using fun e => h2 (.inl e)
  have hby : isBytes xs = true := by simpa using fun e => h2 (.inr e)
  have hnum : sealNum (xs.getD 0 0 / 64) id t m r s k (xs.take (xs.length - 3)) = lastThree xs := by simpa using h4
  have hp := isFrame_parts g1
  have hkd : xs.getD 0 0 / 64 = f.kind := by
    have e0 : (xs.take (xs.length - 3)).getD 0 0 = xs.getD 0 0 := by
      have : 0 < xs.length - 3 := by omega
      simp only [List.getD]; rw [List.getElem?_take_of_lt this]
    rw [← e0, ← g2, frameBytes_head]
    exact head_kind hp.2.1
  unfold sealFrame
  rw [if_pos (sealCode_put g1 hst hid), g2, ← hkd, hnum, three_back (by omega) (isBytes_iff.1 hby).2]
theorem seal_size {f : Fr} {id t m r s k : Int} {out : List Int} (h : sealFrame f id t m r s k = (out, 0)) : sealSize f.kind f.data.length = ((out.length : Int), 0) := by
  obtain ⟨hc, rfl⟩ := seal_yes h
  unfold sealSize
  rw [body_size (sealCode_0 hc).1]
  simp [three_len]
end

section

/-- A one wherever two lists differ. -/
def diffBits (xs ys : List Int) : List Int := List.zipWith (fun x y => if x = y then 0 else 1) xs ys
theorem diff_len {xs ys : List Int} (h : xs.length = ys.length) : (diffBits xs ys).length = xs.length := by simp [diffBits, h]
theorem diff_bits (xs ys : List Int) : ∀ x ∈ diffBits xs ys, 0 ≤ x ∧ x ≤ 1 := by
  intro x hx
  unfold diffBits at hx
  rw [List.zipWith_eq_zipWith_take_min, List.mem_iff_getElem] at hx
  obtain ⟨i, hi, rfl⟩ := hx
  rw [List.getElem_zipWith]
  split <;> omega
theorem bl_diff : ∀ xs ys : List Int, xs.length = ys.length → (∀ x ∈ xs, 0 ≤ x ∧ x ≤ 1) → (∀ y ∈ ys, 0 ≤ y ∧ y ≤ 1) → bl (diffBits xs ys) = List.zipWith (· ^^ ·) (bl xs) (bl ys)
  | [], [], _, _, _ => rfl
  | x :: xs, y :: ys, h, hx, hy => by
    have h1 := hx x (by simp)
    have h2 := hy y (by simp)
    have ih := bl_diff xs ys (by simpa using h) (fun z hz => hx z (by simp [hz])) (fun z hz => hy z (by simp [hz]))
    have hd : diffBits (x :: xs) (y :: ys) = (if x = y then 0 else 1) :: diffBits xs ys := rfl
    have hb : ∀ (z : Int) (zs : List Int), bl (z :: zs) = decide (z = 1) :: bl zs := fun _ _ => rfl
    rw [hd, hb, hb, hb, ih, List.zipWith_cons_cons]
    congr 1
    rcases (show x = 0 ∨ x = 1 from by omega) with rfl | rfl <;> rcases (show y = 0 ∨ y = 1 from by omega) with rfl | rfl <;> rfl
/-- What is fed to two lists parts by what is fed to their differences. -/
theorem diff_synd {W : Nat} {g r : BitVec W} {xs ys : List Int} (h : xs.length = ys.length) (hx : ∀ x ∈ xs, 0 ≤ x ∧ x ≤ 1) (hy : ∀ y ∈ ys, 0 ≤ y ∧ y ≤ 1) (h0 : fbs g r (bl xs) = 0#W) : fbs g r (bl ys) = fbs g 0#W (bl (diffBits xs ys)) := by
  have := fbs_xor (g := g) (bl xs) (bl ys) r r (by rw [bl_len, bl_len]; exact h)
  rw [BitVec.xor_self, ← bl_diff xs ys h hx hy, h0, BitVec.zero_xor] at this
  exact this.symm
theorem diff_zero : ∀ xs ys : List Int, xs.length = ys.length → weight (diffBits xs ys) = 0 → xs = ys
  | [], [], _, _ => rfl
  | x :: xs, y :: ys, h, hw => by
    have hd : diffBits (x :: xs) (y :: ys) = (if x = y then 0 else 1) :: diffBits xs ys := rfl
    rw [hd, weight_cons] at hw
    have hb := (weight_bound (diffBits xs ys) (diff_bits xs ys)).1
    by_cases e : x = y
    · rw [if_pos e] at hw
      rw [e, diff_zero xs ys (by simpa using h) (by omega)]
    · rw [if_neg e] at hw; omega
theorem diff_self (xs : List Int) : weight (diffBits xs xs) = 0 := by
  induction xs with
  | nil => rfl
  | cons x xs ih =>
    have hd : diffBits (x :: xs) (x :: xs) = 0 :: diffBits xs xs := by unfold diffBits; simp
    rw [hd, weight_cons, ih]; rfl
/-- A bit that is set makes one more difference at most. -/
theorem diff_set : ∀ (xs ys : List Int) (i : Nat) (v : Int), xs.length = ys.length → weight (diffBits xs (ys.set i v)) ≤ weight (diffBits xs ys) + 1
  | [], [], i, v, _ => by simp [diffBits, weight]
  | x :: xs, y :: ys, 0, v, h => by
    have hd : ∀ z, diffBits (x :: xs) (z :: ys) = (if x = z then 0 else 1) :: diffBits xs ys := fun _ => rfl
    rw [List.set_cons_zero, hd, hd, weight_cons, weight_cons]
    split <;> split <;> omega
  | x :: xs, y :: ys, i + 1, v, h => by
    have hd : ∀ zs, diffBits (x :: xs) (y :: zs) = (if x = y then 0 else 1) :: diffBits xs zs := fun _ => rfl
    have := diff_set xs ys i v (by simpa using h)
    rw [List.set_cons_succ, hd, hd, weight_cons, weight_cons]
    omega

/-! ### numbers of joined bits -/
theorem numFrom_eq (xs : List Int) (n : Int) : numFrom n xs = n * 2 ^ xs.length + numOf xs := by
  unfold numOf
  induction xs generalizing n with
  | nil => simp [numFrom]
  | cons x xs ih =>
    have e : ∀ a : Int, numFrom a (x :: xs) = numFrom (2 * a + x) xs := fun _ => rfl
    rw [e, e, ih (2 * n + x), ih (2 * 0 + x), List.length_cons, Int.pow_succ]
    generalize (2 : Int) ^ xs.length = P
    rw [show (2 * 0 + x) = x from by omega, Int.add_mul, ← Int.add_assoc]
    congr 2
    rw [Int.mul_assoc, Int.mul_comm P 2, ← Int.mul_assoc, ← Int.mul_assoc, Int.mul_comm 2 n]
theorem numOf_append (xs ys : List Int) : numOf (xs ++ ys) = numOf xs * 2 ^ ys.length + numOf ys := by
  have e : numOf (xs ++ ys) = numFrom (numOf xs) ys := by unfold numOf numFrom; rw [List.foldl_append]
  rw [e, numFrom_eq]
theorem three_bits {x : Int} (h : 0 ≤ x ∧ x ≤ 16777215) : bitsOf8 (three x) = bitsOf x 24 := by
  have hb : ∀ y ∈ bitsOf8 (three x), 0 ≤ y ∧ y ≤ 1 := by
    intro y hy
    obtain ⟨z, -, hz⟩ := List.mem_flatMap.1 hy
    exact bitsOf_bits _ _ y hz
  have hl : (bitsOf8 (three x)).length = 24 := by show (List.flatMap (bitsOf · 8) (three x)).length = 24; rw [flat_len, three_len]
  have hn : numOf (bitsOf8 (three x)) = x := by
    have e : bitsOf8 (three x) = bitsOf (x / 65536) 8 ++ (bitsOf (x / 256 % 256) 8 ++ bitsOf (x % 256) 8) := by simp [bitsOf8, three]
    rw [e, numOf_append, numOf_append, List.length_append, bitsOf_len, bitsOf_len, numOf_bitsOf _ 8 (by omega) (by omega), numOf_bitsOf _ 8 (by omega) (by omega), numOf_bitsOf _ 8 (by omega) (by omega)]
    omega
  have := bitsOf_numOf 24 _ hl hb
  rw [hn] at this
  exact this.symm
theorem bitsOf8_append (xs ys : List Int) : bitsOf8 (xs ++ ys) = bitsOf8 xs ++ bitsOf8 ys := by simp [bitsOf8]

/-! ### the check number -/
/-- The register behind what is fed first. -/
def regFirst (a id t m r s k : Int) : BitVec 24 := fbs stdG (regS id) (bl (fedFirst a t m r s k))
theorem sealNum_eq (a id t m r s k : Int) (body : List Int) : sealNum a id t m r s k body = ((fbs stdG (regFirst a id t m r s k) (bl (bitsOf8 body))).toNat : Int) := by
  unfold sealNum regOf regFirst
  rw [bl_append, fbs_append]
/-- The check number of all but three bytes is the last three exactly if the whole list leaves nought behind. -/
theorem check_iff (a id t m r s k : Int) {xs : List Int} (hl : 3 ≤ xs.length) (hb : ∀ x ∈ xs, 0 ≤ x ∧ x ≤ 255) :
    sealNum a id t m r s k (xs.take (xs.length - 3)) = lastThree xs ↔ fbs stdG (regFirst a id t m r s k) (bl (bitsOf8 xs)) = 0#24 := by
  have hg : stdG.getLsbD 0 = true := by decide
  have h3 := three_back hl hb
  have hx := lastThree_in hl hb
  have e : bl (bitsOf8 xs) = bl (bitsOf8 (xs.take (xs.length - 3))) ++ bl (bitsOf (lastThree xs) 24) := by
    rw [← three_bits hx, ← bl_append, ← bitsOf8_append, h3]
  rw [e, fbs_append, fbs_zero_iff hg _ (bitsOf_len _ _) (bitsOf_bits _ _), numOf_bitsOf _ 24 hx.1 (by omega), sealNum_eq]
/-- The first two bits of a byte are its number by 64. -/
theorem byte_kind {xs : List Int} (hb : ∀ x ∈ xs, 0 ≤ x ∧ x ≤ 1) (hl : xs.length = 8) : numOf xs / 64 = numOf (xs.take 2) := by
  have e := numOf_append (xs.take 2) (xs.drop 2)
  rw [List.take_append_drop] at e
  have hd : (xs.drop 2).length = 6 := by rw [List.length_drop]; omega
  have hbd := numOf_bound (xs.drop 2) (fun x hx => hb x (List.mem_of_mem_drop hx))
  rw [hd] at e hbd
  omega
theorem bits8_in (xs : List Int) : ∀ y ∈ bitsOf8 xs, 0 ≤ y ∧ y ≤ 1 := by
  intro y hy
  obtain ⟨z, -, hz⟩ := List.mem_flatMap.1 hy
  exact bitsOf_bits _ _ y hz
/-- One to three wrong bits of a sealed frame, none of which belongs to the kind, are found. -/
theorem damaged_open {f : Fr} {id t m r s k : Int} {out bs : List Int} (h : sealFrame f id t m r s k = (out, 0)) (hl : bs.length = 8 * out.length) (hb : ∀ x ∈ bs, 0 ≤ x ∧ x ≤ 1)
    (hk : bs.take 2 = (bitsOf8 out).take 2) (hw : weight (diffBits (bitsOf8 out) bs) ≤ 3) (hne : bs ≠ bitsOf8 out) : openFrame (bytesTo bs out.length) id t m r s k = (Fr.zero, 7) := by
  obtain ⟨hc, ho⟩ := seal_yes h
  obtain ⟨h1, h2, h3⟩ := sealCode_0 hc
  have hx := sealNum_in f.kind id t m r s k (frameBytes f)
  obtain ⟨e1, e2, e3⟩ := last_three (frameBytes f) _ hx
  have hs := frameBytes_small h1
  have hp := isFrame_parts h1
  have hlen := frameBytes_len f
  have hfb : ∀ x ∈ out, 0 ≤ x ∧ x ≤ 255 := by rw [ho]; exact (isBytes_iff.1 (isBytes_app (frameBytes_bytes h1) (three_bytes hx) (by rw [three_len]; omega))).2
  rw [← ho] at e1 e2 e3
  have hol : 4 ≤ out.length ∧ out.length ≤ 45 := by omega
  have hbl : (bitsOf8 out).length = bs.length := by rw [hl]; exact flat_len out
  have hwl : (bytesTo bs out.length).length = out.length := by simp [bytesTo]
  have hwb := bytesTo_le bs hb out.length
  have hw8 : bitsOf8 (bytesTo bs out.length) = bs := by
    rw [bits_bytes bs hb out.length (by omega)]
    exact List.take_of_length_le (by omega)
  have h0 : fbs stdG (regFirst f.kind id t m r s k) (bl (bitsOf8 out)) = 0#24 := by
    refine (check_iff f.kind id t m r s k (by omega) hfb).1 ?_
    rw [e1, e2]
  have hd := diff_synd (g := stdG) (r := regFirst f.kind id t m r s k) hbl (bits8_in out) hb h0
  have hpos : 0 < weight (diffBits (bitsOf8 out) bs) := by
    have := (weight_bound _ (diff_bits (bitsOf8 out) bs)).1
    rcases Int.lt_or_eq_of_le this with h | h
    · exact h
    · exact absurd (diff_zero _ _ hbl h.symm).symm hne
  have hnz := std_found (diff_bits (bitsOf8 out) bs) (by rw [diff_len hbl]; omega) hpos hw
  rw [← hd] at hnz
  have hk64 : (bytesTo bs out.length).getD 0 0 / 64 = f.kind := by
    have a1 : (bytesTo bs out.length).getD 0 0 = numOf (bs.take 8) := by
      obtain ⟨n, hn⟩ : ∃ n, out.length = n + 1 := ⟨out.length - 1, by omega⟩
      rw [hn]
      simp [bytesTo, List.range_succ_eq_map, List.getD]
    have a2 : out.getD 0 0 = numOf ((bitsOf8 out).take 8) := by
      rw [ho]
      have hne' : 0 < (frameBytes f ++ three (sealNum f.kind id t m r s k (frameBytes f))).length := by rw [List.length_append]; omega
      obtain ⟨z, zs, hz⟩ := List.exists_cons_of_length_pos hne'
      rw [hz]
      have hz255 := hfb z (by rw [ho, hz]; simp)
      have : bitsOf8 (z :: zs) = bitsOf z 8 ++ bitsOf8 zs := by simp [bitsOf8]
      rw [this, List.take_left' (bitsOf_len _ _), numOf_bitsOf z 8 hz255.1 (by omega)]
      rfl
    have a3 : out.getD 0 0 / 64 = f.kind := by
      have h0 : out.getD 0 0 = (frameBytes f).getD 0 0 := by
        rw [ho]
        have : 0 < (frameBytes f).length := by omega
        simp only [List.getD]; rw [List.getElem?_append_left this]
      rw [h0, frameBytes_head]
      exact head_kind hp.2.1
    rw [a1, byte_kind (fun x hx => hb x (List.mem_of_mem_take hx)) (by rw [List.length_take]; omega), List.take_take, show min 2 8 = 2 from rfl, hk]
    rw [a2, byte_kind (fun x hx => bits8_in out x (List.mem_of_mem_take hx)) (by rw [List.length_take, hbl]; omega), List.take_take, show min 2 8 = 2 from rfl] at a3
    exact a3
  have hck : sealNum f.kind id t m r s k ((bytesTo bs out.length).take ((bytesTo bs out.length).length - 3)) ≠ lastThree (bytesTo bs out.length) := by
    intro e
    have := (check_iff f.kind id t m r s k (by omega) hwb).1 e
    rw [hw8] at this
    exact hnz this
  unfold openFrame
  rw [hk64, if_neg (by simp [h2]), if_neg (by simp [h3, isBytes_iff.2 ⟨by omega, hwb⟩]), if_neg (by omega), if_pos hck]
/-- Errors of a weight of one to three are not missed. -/
theorem missed_not {xs ys : List Int} (hx : ∀ x ∈ xs, 0 ≤ x ∧ x ≤ 1) (hy : ∀ x ∈ ys, 0 ≤ x ∧ x ≤ 1) (hl : xs.length + ys.length ≤ 1000) (h1 : 0 < weight xs + weight ys) (h3 : weight xs + weight ys ≤ 3) : fbs stdG (fbs stdG 0#24 (bl xs)) (bl ys) ≠ 0#24 := by
  rw [← fbs_append, ← bl_append]
  refine std_found (fun x h => ?_) (by rw [List.length_append]; exact hl) (by rw [weight_append]; exact h1) (by rw [weight_append]; exact h3)
  rcases List.mem_append.1 h with h | h
  · exact hx x h
  · exact hy x h
end

section

theorem diff_at {xs ys : List Int} (h : xs.length = ys.length) {k : Nat} (hk : k < xs.length) : (diffBits xs ys).getD k 0 = if xs.getD k 0 = ys.getD k 0 then 0 else 1 := by
  have hk2 : k < ys.length := by omega
  have hk3 : k < (diffBits xs ys).length := by rw [diff_len h]; exact hk
  have e1 : (diffBits xs ys).getD k 0 = (diffBits xs ys)[k] := by simp [List.getD, hk3]
  have e2 : xs.getD k 0 = xs[k] := by simp [List.getD, hk]
  have e3 : ys.getD k 0 = ys[k] := by simp [List.getD, hk2]
  rw [e1, e2, e3]
  exact List.getElem_zipWith
theorem diff_weight {xs ys : List Int} (h : xs.length = ys.length) (k : Nat) (hk : k ≤ xs.length) : weight ((diffBits xs ys).take k) = ((diffTo xs ys k).length : Int) := by
  induction k with
  | zero => simp [diffTo, weight]
  | succ k ih =>
    have ih := ih (by omega)
    rw [weight_take _ k (by rw [diff_len h]; omega), ih, diff_at h (by omega)]
    cases hd : (xs.getD k 0 != ys.getD k 0) with
    | true =>
      have hne : xs.getD k 0 ≠ ys.getD k 0 := by simpa only [bne_iff_ne] using hd
      rw [diffTo_ne hd, if_neg hne, List.length_append, List.length_singleton]
      omega
    | false =>
      have he : xs.getD k 0 = ys.getD k 0 := by simpa only [bne_eq_false_iff_eq] using hd
      rw [diffTo_eq hd, if_pos he]
      omega
/-- The number of differences is the weight of the list that has a one at each. -/
theorem diff_count {xs ys : List Int} (h : xs.length = ys.length) : weight (diffBits xs ys) = ((diffTo xs ys xs.length).length : Int) := by
  have := diff_weight h xs.length (Nat.le_refl _)
  rwa [List.take_of_length_le (by rw [diff_len h]; exact Nat.le_refl _)] at this
theorem set_next (ds : List Int) (n k : Nat) (v : Int) (hn : ds.length = n) (hk : k < n) : (ds.take k ++ List.replicate (n - k) 0).set k v = ds.take k ++ v :: List.replicate (n - (k + 1)) 0 := by
  have hl : (ds.take k).length = k := by rw [List.length_take]; omega
  obtain ⟨m, hm⟩ : ∃ m, n - k = m + 1 := ⟨n - k - 1, by omega⟩
  rw [hm, show n - (k + 1) = m from by omega, List.replicate_succ, List.set_append_right _ _ (by omega), hl, Nat.sub_self]
  rfl
/-- Noughts flipped where two lists differ. -/
theorem flips_differ {xs ys : List Int} (h : xs.length = ys.length) : flips (List.replicate xs.length 0) (diffTo xs ys xs.length) = diffBits xs ys := by
  have hdl := diff_len h
  have key : ∀ k, k ≤ xs.length → flips (List.replicate xs.length 0) (diffTo xs ys k) = (diffBits xs ys).take k ++ List.replicate (xs.length - k) 0 := by
    intro k
    induction k with
    | zero => intro _; simp [diffTo, flips]
    | succ k ih =>
      intro hk
      have ih := ih (by omega)
      have hat := diff_at h (k := k) (by omega)
      have htake : (diffBits xs ys).take (k + 1) = (diffBits xs ys).take k ++ [(diffBits xs ys).getD k 0] := by
        rw [List.take_add_one, List.getElem?_eq_getElem (by omega)]
        simp [List.getD, show k < (diffBits xs ys).length from by omega]
      have hl : ((diffBits xs ys).take k).length = k := by rw [List.length_take]; omega
      cases hd : (xs.getD k 0 != ys.getD k 0) with
      | true =>
        have hne : xs.getD k 0 ≠ ys.getD k 0 := by simpa only [bne_iff_ne] using hd
        rw [if_neg hne] at hat
        have hz : ((diffBits xs ys).take k ++ List.replicate (xs.length - k) 0).getD k 0 = 0 := by
          simp only [List.getD]
          rw [List.getElem?_append_right (by omega), hl, Nat.sub_self, List.getElem?_replicate]
          split <;> rfl
        rw [diffTo_ne hd, flips_snoc, ih, Int.toNat_natCast, hz, set_next _ _ _ _ hdl (by omega), htake, hat]
        simp
      | false =>
        have he : xs.getD k 0 = ys.getD k 0 := by simpa only [bne_eq_false_iff_eq] using hd
        rw [if_pos he] at hat
        obtain ⟨m, hm⟩ : ∃ m, xs.length - k = m + 1 := ⟨xs.length - k - 1, by omega⟩
        rw [diffTo_eq hd, ih, htake, hat, hm, show xs.length - (k + 1) = m from by omega, List.replicate_succ]
        simp
  have := key xs.length (Nat.le_refl _)
  rwa [List.take_of_length_le (by omega), Nat.sub_self, List.replicate_zero, List.append_nil] at this
theorem reg_id {id : Int} (h : 0 ≤ id ∧ id ≤ 16777215) : ((regS id).toNat : Int) = id := by
  unfold regS
  rw [BitVec.toNat_ofNat]
  omega
theorem std_nat : (stdG.toNat : Int) = 6122955 := by decide
end
end Go.Proofs.Ytbdfnkhmnglpbaa
