/-
  Chapter 7: wrong bits of a sealed frame. No program is named here.
-/
import Derived.Test.YtdcalkobcdeclaaSe2
namespace Go.Proofs.Ytdcalkobcdeclaa

/-- A one wherever two lists differ. -/
def diffBits (xs ys : List Int) : List Int := List.zipWith (fun x y => if x = y then 0 else 1) xs ys
theorem diff_len {xs ys : List Int} (h : xs.length = ys.length) : (diffBits xs ys).length = xs.length := by simp [diffBits, h]
theorem diff_bits (xs ys : List Int) : ∀ x ∈ diffBits xs ys, 0 ≤ x ∧ x ≤ 1 := by
  intro x hx
  unfold diffBits at hx
  rw [List.zipWith_eq_zipWith_take_min, List.mem_iff_getElem] at hx
  obtain ⟨i, hi, rfl⟩ := hx
  rw [List.getElem_zipWith]
  split <;> omega
theorem bl_diff : ∀ xs ys : List Int, xs.length = ys.length → (∀ x ∈ xs, 0 ≤ x ∧ x ≤ 1) → (∀ y ∈ ys, 0 ≤ y ∧ y ≤ 1) → bl (diffBits xs ys) = List.zipWith (· ^^ ·) (bl xs) (bl ys)
  | [], [], _, _, _ => rfl
  | x :: xs, y :: ys, h, hx, hy => by
    have h1 := hx x (by simp)
    have h2 := hy y (by simp)
    have ih := bl_diff xs ys (by simpa using h) (fun z hz => hx z (by simp [hz])) (fun z hz => hy z (by simp [hz]))
    have hd : diffBits (x :: xs) (y :: ys) = (if x = y then 0 else 1) :: diffBits xs ys := rfl
    have hb : ∀ (z : Int) (zs : List Int), bl (z :: zs) = decide (z = 1) :: bl zs := fun _ _ => rfl
    rw [hd, hb, hb, hb, ih, List.zipWith_cons_cons]
    congr 1
    rcases (show x = 0 ∨ x = 1 from by omega) with rfl | rfl <;> rcases (show y = 0 ∨ y = 1 from by omega) with rfl | rfl <;> rfl
/-- What is fed to two lists parts by what is fed to their differences. -/
theorem diff_synd {W : Nat} {g r : BitVec W} {xs ys : List Int} (h : xs.length = ys.length) (hx : ∀ x ∈ xs, 0 ≤ x ∧ x ≤ 1) (hy : ∀ y ∈ ys, 0 ≤ y ∧ y ≤ 1) (h0 : fbs g r (bl xs) = 0#W) : fbs g r (bl ys) = fbs g 0#W (bl (diffBits xs ys)) := by
  have := fbs_xor (g := g) (bl xs) (bl ys) r r (by rw [bl_len, bl_len]; exact h)
  rw [BitVec.xor_self, ← bl_diff xs ys h hx hy, h0, BitVec.zero_xor] at this
  exact this.symm
theorem diff_zero : ∀ xs ys : List Int, xs.length = ys.length → weight (diffBits xs ys) = 0 → xs = ys
  | [], [], _, _ => rfl
  | x :: xs, y :: ys, h, hw => by
    have hd : diffBits (x :: xs) (y :: ys) = (if x = y then 0 else 1) :: diffBits xs ys := rfl
    rw [hd, weight_cons] at hw
    have hb := (weight_bound (diffBits xs ys) (diff_bits xs ys)).1
    by_cases e : x = y
    · rw [if_pos e] at hw
      rw [e, diff_zero xs ys (by simpa using h) (by omega)]
    · rw [if_neg e] at hw; omega
theorem diff_self (xs : List Int) : weight (diffBits xs xs) = 0 := by
  induction xs with
  | nil => rfl
  | cons x xs ih =>
    have hd : diffBits (x :: xs) (x :: xs) = 0 :: diffBits xs xs := by unfold diffBits; simp
    rw [hd, weight_cons, ih]; rfl
/-- A bit that is set makes one more difference at most. -/
theorem diff_set : ∀ (xs ys : List Int) (i : Nat) (v : Int), xs.length = ys.length → weight (diffBits xs (ys.set i v)) ≤ weight (diffBits xs ys) + 1
  | [], [], i, v, _ => by simp [diffBits, weight]
  | x :: xs, y :: ys, 0, v, h => by
    have hd : ∀ z, diffBits (x :: xs) (z :: ys) = (if x = z then 0 else 1) :: diffBits xs ys := fun _ => rfl
    rw [List.set_cons_zero, hd, hd, weight_cons, weight_cons]
    split <;> split <;> omega
  | x :: xs, y :: ys, i + 1, v, h => by
    have hd : ∀ zs, diffBits (x :: xs) (y :: zs) = (if x = y then 0 else 1) :: diffBits xs zs := fun _ => rfl
    have := diff_set xs ys i v (by simpa using h)
    rw [List.set_cons_succ, hd, hd, weight_cons, weight_cons]
    omega

/-! ### numbers of joined bits -/
theorem numFrom_eq (xs : List Int) (n : Int) : numFrom n xs = n * 2 ^ xs.length + numOf xs := by
  unfold numOf
  induction xs generalizing n with
  | nil => simp [numFrom]
  | cons x xs ih =>
    have e : ∀ a : Int, numFrom a (x :: xs) = numFrom (2 * a + x) xs := fun _ => rfl
    rw [e, e, ih (2 * n + x), ih (2 * 0 + x), List.length_cons, Int.pow_succ]
    generalize (2 : Int) ^ xs.length = P
    rw [show (2 * 0 + x) = x from by omega, Int.add_mul, ← Int.add_assoc]
    congr 2
    rw [Int.mul_assoc, Int.mul_comm P 2, ← Int.mul_assoc, ← Int.mul_assoc, Int.mul_comm 2 n]
theorem numOf_append (xs ys : List Int) : numOf (xs ++ ys) = numOf xs * 2 ^ ys.length + numOf ys := by
  have e : numOf (xs ++ ys) = numFrom (numOf xs) ys := by unfold numOf numFrom; rw [List.foldl_append]
  rw [e, numFrom_eq]
theorem three_bits {x : Int} (h : 0 ≤ x ∧ x ≤ 16777215) : bitsOf8 (three x) = bitsOf x 24 := by
  have hb : ∀ y ∈ bitsOf8 (three x), 0 ≤ y ∧ y ≤ 1 := by
    intro y hy
    obtain ⟨z, -, hz⟩ := List.mem_flatMap.1 hy
    exact bitsOf_bits _ _ y hz
  have hl : (bitsOf8 (three x)).length = 24 := by show (List.flatMap (bitsOf · 8) (three x)).length = 24; rw [flat_len, three_len]
  have hn : numOf (bitsOf8 (three x)) = x := by
    have e : bitsOf8 (three x) = bitsOf (x / 65536) 8 ++ (bitsOf (x / 256 % 256) 8 ++ bitsOf (x % 256) 8) := by simp [bitsOf8, three]
    rw [e, numOf_append, numOf_append, List.length_append, bitsOf_len, bitsOf_len, numOf_bitsOf _ 8 (by omega) (by omega), numOf_bitsOf _ 8 (by omega) (by omega), numOf_bitsOf _ 8 (by omega) (by omega)]
    omega
  have := bitsOf_numOf 24 _ hl hb
  rw [hn] at this
  exact this.symm
theorem bitsOf8_append (xs ys : List Int) : bitsOf8 (xs ++ ys) = bitsOf8 xs ++ bitsOf8 ys := by simp [bitsOf8]

/-! ### the check number -/
/-- The register behind what is fed first. -/
def regFirst (a id t m r s k : Int) : BitVec 24 := fbs stdG (regS id) (bl (fedFirst a t m r s k))
theorem sealNum_eq (a id t m r s k : Int) (body : List Int) : sealNum a id t m r s k body = ((fbs stdG (regFirst a id t m r s k) (bl (bitsOf8 body))).toNat : Int) := by
  unfold sealNum regOf regFirst
  rw [bl_append, fbs_append]
/-- The check number of all but three bytes is the last three exactly if the whole list leaves nought behind. -/
theorem check_iff (a id t m r s k : Int) {xs : List Int} (hl : 3 ≤ xs.length) (hb : ∀ x ∈ xs, 0 ≤ x ∧ x ≤ 255) :
    sealNum a id t m r s k (xs.take (xs.length - 3)) = lastThree xs ↔ fbs stdG (regFirst a id t m r s k) (bl (bitsOf8 xs)) = 0#24 := by
  have hg : stdG.getLsbD 0 = true := by decide
  have h3 := three_back hl hb
  have hx := lastThree_in hl hb
  have e : bl (bitsOf8 xs) = bl (bitsOf8 (xs.take (xs.length - 3))) ++ bl (bitsOf (lastThree xs) 24) := by
    rw [← three_bits hx, ← bl_append, ← bitsOf8_append, h3]
  rw [e, fbs_append, fbs_zero_iff hg _ (bitsOf_len _ _) (bitsOf_bits _ _), numOf_bitsOf _ 24 hx.1 (by omega), sealNum_eq]
/-- The first two bits of a byte are its number by 64. -/
theorem byte_kind {xs : List Int} (hb : ∀ x ∈ xs, 0 ≤ x ∧ x ≤ 1) (hl : xs.length = 8) : numOf xs / 64 = numOf (xs.take 2) := by
  have e := numOf_append (xs.take 2) (xs.drop 2)
  rw [List.take_append_drop] at e
  have hd : (xs.drop 2).length = 6 := by rw [List.length_drop]; omega
  have hbd := numOf_bound (xs.drop 2) (fun x hx => hb x (List.mem_of_mem_drop hx))
  rw [hd] at e hbd
  omega
theorem bits8_in (xs : List Int) : ∀ y ∈ bitsOf8 xs, 0 ≤ y ∧ y ≤ 1 := by
  intro y hy
  obtain ⟨z, -, hz⟩ := List.mem_flatMap.1 hy
  exact bitsOf_bits _ _ y hz
/-- One to three wrong bits of a sealed frame, none of which belongs to the kind, are found. -/
theorem damaged_open {f : Fr} {id t m r s k : Int} {out bs : List Int} (h : sealFrame f id t m r s k = (out, 0)) (hl : bs.length = 8 * out.length) (hb : ∀ x ∈ bs, 0 ≤ x ∧ x ≤ 1)
    (hk : bs.take 2 = (bitsOf8 out).take 2) (hw : weight (diffBits (bitsOf8 out) bs) ≤ 3) (hne : bs ≠ bitsOf8 out) : openFrame (bytesTo bs out.length) id t m r s k = (Fr.zero, 7) := by
  obtain ⟨hc, ho⟩ := seal_yes h
  obtain ⟨h1, h2, h3⟩ := sealCode_0 hc
  have hx := sealNum_in f.kind id t m r s k (frameBytes f)
  obtain ⟨e1, e2, e3⟩ := last_three (frameBytes f) _ hx
  have hs := frameBytes_small h1
  have hp := isFrame_parts h1
  have hlen := frameBytes_len f
  have hfb : ∀ x ∈ out, 0 ≤ x ∧ x ≤ 255 := by rw [ho]; exact (isBytes_iff.1 (isBytes_app (frameBytes_bytes h1) (three_bytes hx) (by rw [three_len]; omega))).2
  rw [← ho] at e1 e2 e3
  have hol : 4 ≤ out.length ∧ out.length ≤ 45 := by omega
  have hbl : (bitsOf8 out).length = bs.length := by rw [hl]; exact flat_len out
  have hwl : (bytesTo bs out.length).length = out.length := by simp [bytesTo]
  have hwb := bytesTo_le bs hb out.length
  have hw8 : bitsOf8 (bytesTo bs out.length) = bs := by
    rw [bits_bytes bs hb out.length (by omega)]
    exact List.take_of_length_le (by omega)
  have h0 : fbs stdG (regFirst f.kind id t m r s k) (bl (bitsOf8 out)) = 0#24 := by
    refine (check_iff f.kind id t m r s k (by omega) hfb).1 ?_
    rw [e1, e2]
  have hd := diff_synd (g := stdG) (r := regFirst f.kind id t m r s k) hbl (bits8_in out) hb h0
  have hpos : 0 < weight (diffBits (bitsOf8 out) bs) := by
    have := (weight_bound _ (diff_bits (bitsOf8 out) bs)).1
    rcases Int.lt_or_eq_of_le this with h | h
    · exact h
    · exact absurd (diff_zero _ _ hbl h.symm).symm hne
  have hnz := std_found (diff_bits (bitsOf8 out) bs) (by rw [diff_len hbl]; omega) hpos hw
  rw [← hd] at hnz
  have hk64 : (bytesTo bs out.length).getD 0 0 / 64 = f.kind := by
    have a1 : (bytesTo bs out.length).getD 0 0 = numOf (bs.take 8) := by
      obtain ⟨n, hn⟩ : ∃ n, out.length = n + 1 := ⟨out.length - 1, by omega⟩
      rw [hn]
      simp [bytesTo, List.range_succ_eq_map, List.getD]
    have a2 : out.getD 0 0 = numOf ((bitsOf8 out).take 8) := by
      rw [ho]
      have hne' : 0 < (frameBytes f ++ three (sealNum f.kind id t m r s k (frameBytes f))).length := by rw [List.length_append]; omega
      obtain ⟨z, zs, hz⟩ := List.exists_cons_of_length_pos hne'
      rw [hz]
      have hz255 := hfb z (by rw [ho, hz]; simp)
      have : bitsOf8 (z :: zs) = bitsOf z 8 ++ bitsOf8 zs := by simp [bitsOf8]
      rw [this, List.take_left' (bitsOf_len _ _), numOf_bitsOf z 8 hz255.1 (by omega)]
      rfl
    have a3 : out.getD 0 0 / 64 = f.kind := by
      have h0 : out.getD 0 0 = (frameBytes f).getD 0 0 := by
        rw [ho]
        have : 0 < (frameBytes f).length := by omega
        simp only [List.getD]; rw [List.getElem?_append_left this]
      rw [h0, frameBytes_head]
      exact head_kind hp.2.1
    rw [a1, byte_kind (fun x hx => hb x (List.mem_of_mem_take hx)) (by rw [List.length_take]; omega), List.take_take, show min 2 8 = 2 from rfl, hk]
    rw [a2, byte_kind (fun x hx => bits8_in out x (List.mem_of_mem_take hx)) (by rw [List.length_take, hbl]; omega), List.take_take, show min 2 8 = 2 from rfl] at a3
    exact a3
  have hck : sealNum f.kind id t m r s k ((bytesTo bs out.length).take ((bytesTo bs out.length).length - 3)) ≠ lastThree (bytesTo bs out.length) := by
    intro e
    have := (check_iff f.kind id t m r s k (by omega) hwb).1 e
    rw [hw8] at this
    exact hnz this
  unfold openFrame
  rw [hk64, if_neg (by simp [h2]), if_neg (by simp [h3, isBytes_iff.2 ⟨by omega, hwb⟩]), if_neg (by omega), if_pos hck]
/-- Errors of a weight of one to three are not missed. -/
theorem missed_not {xs ys : List Int} (hx : ∀ x ∈ xs, 0 ≤ x ∧ x ≤ 1) (hy : ∀ x ∈ ys, 0 ≤ x ∧ x ≤ 1) (hl : xs.length + ys.length ≤ 1000) (h1 : 0 < weight xs + weight ys) (h3 : weight xs + weight ys ≤ 3) : fbs stdG (fbs stdG 0#24 (bl xs)) (bl ys) ≠ 0#24 := by
  rw [← fbs_append, ← bl_append]
  refine std_found (fun x h => ?_) (by rw [List.length_append]; exact hl) (by rw [weight_append]; exact h1) (by rw [weight_append]; exact h3)
  rcases List.mem_append.1 h with h | h
  · exact hx x h
  · exact hy x h
end Go.Proofs.Ytdcalkobcdeclaa
