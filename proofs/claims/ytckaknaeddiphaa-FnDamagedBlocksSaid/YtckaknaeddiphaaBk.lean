/-
  The plain functions of chapter 9, and what its laws say of them. No program is named here.
  Chapter 9: bits of bytes that are turned within one block. No program is named here.
-/
import Derived.Test.YtckaknaeddiphaaSe
namespace Go.Proofs.Ytckaknaeddiphaa
section

/-- The check number of the beginning of block k. -/
def checkOf (k : Int) (xs : List Int) : Int := regOf stdG (regS (k + 1)) (bitsOf8 xs)
/-- How many blocks n bytes of data take; how many slices n bytes of an image have. -/
def blocksOf (n : Nat) : Nat := max 1 ((n + 27) / 28)
def slicesOf (n : Nat) : Nat := max 1 ((n + 32) / 33)
def partOf (data : List Int) (k : Nat) : List Int := (data.drop (28 * k)).take 28
def headOf (data : List Int) (k : Nat) : List Int := [(k : Int), (partOf data k).length + (if k + 1 = blocksOf data.length then 128 else 0)] ++ partOf data k
def blockOf (data : List Int) (k : Nat) : List Int := headOf data k ++ three (checkOf k (headOf data k))
def image9 (data : List Int) : List Int := (List.range (blocksOf data.length)).flatMap (blockOf data)
def imageOf (data : List Int) : List Int × Int := if isBytes data = false then ([], 2) else if 868 < data.length then ([], 3) else (image9 data, 0)
def imageSize (n : Int) : Int × Int := if inRange 0 868 n = true then (n + 5 * (blocksOf n.toNat : Int), 0) else (0, 2)
def sliceOf (img : List Int) (k : Nat) : List Int := (img.drop (33 * k)).take 33
/-- Whether slice k is damaged. -/
def bad9 (k : Nat) (b : List Int) : Bool := decide (b.length < 5) || decide (checkOf k (b.take (b.length - 3)) ≠ lastThree b)
def damaged9 (img : List Int) : List Nat := (List.range (slicesOf img.length)).filter fun k => bad9 k (sliceOf img k)
def damagedBlocks (img : List Int) : List Int × Int := if isBytes img = false then ([], 2) else ((damaged9 img).map fun k : Nat => (k : Int), 0)
def partIn (b : List Int) : List Int := (b.drop 2).take (b.length - 5)
def data9 (img : List Int) : List Int := (List.range ((img.length + 32) / 33)).flatMap fun k => partIn (sliceOf img k)
def dataOfImage (img : List Int) : List Int × Int :=
  if isBytes img = false then ([], 2) else if damaged9 img ≠ [] then ([], 7) else if (data9 img).length ≤ 868 ∧ image9 (data9 img) = img then (data9 img, 0) else ([], 6)
def blockAt (img : List Int) (k : Int) : List Int × Int :=
  if isBytes img = false then ([], 2) else if 0 ≤ k ∧ 33 * k < img.length then (sliceOf img k.toNat, 0) else ([], 4)
def blockOfByte (n at_ : Int) : Int × Int := if inRange 0 868 n = true ∧ 0 ≤ at_ ∧ at_ ≤ n - 1 then (at_ / 28, 0) else (0, 2)

/-! ### lists in parts of one length -/
theorem flat_width (f : Nat → List Int) (L : Nat) : ∀ n, (∀ j, j < n → (f j).length = L) → ((List.range n).flatMap f).length = L * n
  | 0, _ => by simp
  | n + 1, h => by
    rw [List.range_succ, List.flatMap_append, List.length_append, flat_width f L n (fun j hj => h j (by omega))]
    simp [h n (by omega), Nat.mul_succ]
theorem flat_part (f : Nat → List Int) (L n k : Nat) (h : ∀ j, j + 1 < n → (f j).length = L) (hk : k < n) (hl : (f k).length ≤ L) : (((List.range n).flatMap f).drop (L * k)).take L = f k := by
  obtain ⟨m, rfl⟩ : ∃ m, n = k + (1 + m) := ⟨n - k - 1, by omega⟩
  rw [List.range_add, List.flatMap_append]
  have hp := flat_width f L k (fun j hj => h j (by omega))
  rw [List.drop_left' hp]
  rw [Nat.add_comm 1 m, List.range_succ_eq_map]
  simp only [List.map_cons, List.flatMap_cons, Nat.add_zero]
  rcases m with _ | m
  · simp only [List.range_zero, List.map_nil, List.flatMap_nil, List.append_nil]
    exact List.take_of_length_le hl
  · exact List.take_left' (h k (by omega))
theorem join_take (img : List Int) : ∀ c, (List.range c).flatMap (sliceOf img) = img.take (33 * c)
  | 0 => by simp
  | c + 1 => by
    rw [List.range_succ, List.flatMap_append, join_take img c, List.flatMap_cons, List.flatMap_nil, List.append_nil, show 33 * (c + 1) = 33 * c + 33 from by omega, List.take_add]
    rfl
theorem join_slices (img : List Int) {c : Nat} (h : img.length ≤ 33 * c) : (List.range c).flatMap (sliceOf img) = img := by
  rw [join_take, List.take_of_length_le h]
theorem blocks_pos (n : Nat) : 1 ≤ blocksOf n := Nat.le_max_left _ _
theorem blocks_hi (n : Nat) : n ≤ 28 * blocksOf n := by unfold blocksOf; omega
theorem blocks_lo (n k : Nat) (h : k + 1 < blocksOf n) : 28 * (k + 1) < n := by unfold blocksOf at h; omega
theorem blocks_31 {n : Nat} (h : n ≤ 868) : blocksOf n ≤ 31 := by unfold blocksOf; omega
theorem part_len (data : List Int) (k : Nat) : (partOf data k).length = min 28 (data.length - 28 * k) := by unfold partOf; rw [List.length_take, List.length_drop]
theorem part_whole (data : List Int) (k : Nat) (h : k + 1 < blocksOf data.length) : (partOf data k).length = 28 := by
  rw [part_len]
  have := blocks_lo _ _ h
  omega
theorem head_len (data : List Int) (k : Nat) : (headOf data k).length = (partOf data k).length + 2 := by unfold headOf; rw [List.length_append]; simp; omega
theorem block_len (data : List Int) (k : Nat) : (blockOf data k).length = (partOf data k).length + 5 := by unfold blockOf; rw [List.length_append, head_len, three_len]
theorem block_le (data : List Int) (k : Nat) : (blockOf data k).length ≤ 33 := by rw [block_len, part_len]; omega
theorem image_slice (data : List Int) (k : Nat) (h : k < blocksOf data.length) : sliceOf (image9 data) k = blockOf data k :=
  flat_part (blockOf data) 33 _ k (fun j hj => by rw [block_len, part_whole _ _ hj]) h (block_le _ _)
theorem image_len (data : List Int) : (image9 data).length = data.length + 5 * blocksOf data.length := by
  unfold image9
  obtain ⟨m, hm⟩ : ∃ m, blocksOf data.length = m + 1 := ⟨blocksOf data.length - 1, by have := blocks_pos data.length; omega⟩
  have hl := blocks_hi data.length
  rw [hm, List.range_succ, List.flatMap_append, List.length_append, flat_width (blockOf data) 33 m (fun j hj => by rw [block_len, part_whole _ _ (by omega)])]
  simp only [List.flatMap_cons, List.flatMap_nil, List.append_nil]
  rw [block_len, part_len]
  rcases m with _ | m
  · omega
  · have := blocks_lo data.length m (by omega)
    omega
theorem image_slices (data : List Int) : slicesOf (image9 data).length = blocksOf data.length ∧ ((image9 data).length + 32) / 33 = blocksOf data.length := by
  have h1 := image_len data
  have h2 := blocks_hi data.length
  have h3 := blocks_pos data.length
  obtain ⟨m, hm⟩ : ∃ m, blocksOf data.length = m + 1 := ⟨blocksOf data.length - 1, by omega⟩
  have h4 : 28 * m ≤ data.length := by
    rcases m with _ | m
    · omega
    · have := blocks_lo data.length m (by omega); omega
  unfold slicesOf
  omega

/-! ### data out of their image -/
theorem checkOf_in (k : Int) (xs : List Int) : 0 ≤ checkOf k xs ∧ checkOf k xs ≤ 16777215 := reg_lt (by omega) _
theorem block_good (data : List Int) (k : Nat) : bad9 k (blockOf data k) = false := by
  obtain ⟨h1, h2, h3⟩ := last_three (headOf data k) (checkOf k (headOf data k)) (checkOf_in _ _)
  have hl := block_len data k
  change lastThree (blockOf data k) = _ at h1
  change (blockOf data k).take ((blockOf data k).length - 3) = _ at h2
  unfold bad9
  rw [h1, h2, hl]
  simp
theorem image_good (data : List Int) : damaged9 (image9 data) = [] := by
  unfold damaged9
  rw [(image_slices data).1, List.filter_eq_nil_iff]
  intro k hk
  rw [image_slice data k (List.mem_range.1 hk), block_good]
  simp
theorem part_back (data : List Int) (k : Nat) : partIn (blockOf data k) = partOf data k := by
  unfold partIn
  rw [block_len]
  have e : (blockOf data k).drop 2 = partOf data k ++ three (checkOf k (headOf data k)) := by unfold blockOf headOf; rfl
  rw [e]
  exact List.take_left' (by omega)
theorem parts_take (data : List Int) : ∀ c, (List.range c).flatMap (partOf data) = data.take (28 * c)
  | 0 => by simp
  | c + 1 => by
    rw [List.range_succ, List.flatMap_append, parts_take data c, List.flatMap_cons, List.flatMap_nil, List.append_nil, show 28 * (c + 1) = 28 * c + 28 from by omega, List.take_add]
    rfl
theorem flat_congr {f g : Nat → List Int} : ∀ n, (∀ k, k < n → f k = g k) → (List.range n).flatMap f = (List.range n).flatMap g
  | 0, _ => rfl
  | n + 1, h => by rw [List.range_succ, List.flatMap_append, List.flatMap_append, flat_congr n (fun k hk => h k (by omega)), List.flatMap_cons, List.flatMap_cons, h n (by omega)]; rfl
theorem image_data (data : List Int) : data9 (image9 data) = data := by
  unfold data9
  rw [(image_slices data).2, flat_congr (g := partOf data) _ (fun k hk => by rw [image_slice data k hk, part_back]), parts_take, List.take_of_length_le (blocks_hi _)]
theorem image_bytes {data : List Int} (hb : isBytes data = true) (hl : data.length ≤ 868) : isBytes (image9 data) = true := by
  have h31 := blocks_31 hl
  refine isBytes_iff.2 ⟨by rw [image_len]; omega, fun x hx => ?_⟩
  unfold image9 at hx
  obtain ⟨k, hk, hx⟩ := List.mem_flatMap.1 hx
  have hk := List.mem_range.1 hk
  unfold blockOf headOf at hx
  rw [List.mem_append, List.mem_append] at hx
  rcases hx with (hx | hx) | hx
  · have hp := part_len data k
    rcases List.mem_cons.1 hx with rfl | hx
    · omega
    · rw [List.mem_singleton.1 hx]
      split <;> omega
  · exact (isBytes_iff.1 hb).2 x (List.mem_of_mem_drop (List.mem_of_mem_take hx))
  · exact three_bytes (checkOf_in _ _) x hx
theorem image_round {data : List Int} (hb : isBytes data = true) (hl : data.length ≤ 868) : dataOfImage (image9 data) = (data, 0) := by
  unfold dataOfImage
  rw [image_data, if_neg (by rw [image_bytes hb hl]; simp), if_neg (by rw [image_good]; simp), if_pos ⟨hl, rfl⟩]
theorem imageOf_yes {data img : List Int} (h : imageOf data = (img, 0)) : isBytes data = true ∧ data.length ≤ 868 ∧ img = image9 data := by
  unfold imageOf at h
  split at h
  · simp at h
  · rename_i hb
    split at h
    · simp at h
    · simp only [Prod.mk.injEq, and_true] at h
      exact ⟨by simpa using hb, by omega, h.symm⟩
theorem read_image {img data : List Int} (h : dataOfImage img = (data, 0)) : isBytes img = true ∧ damaged9 img = [] ∧ data.length ≤ 868 ∧ image9 data = img ∧ isBytes data = true := by
  unfold dataOfImage at h
  split at h
  · simp at h
  · rename_i hb
    split at h
    · simp at h
    · rename_i hd
      split at h
      · rename_i hi
        simp only [Prod.mk.injEq, and_true] at h
        subst h
        have hb : isBytes img = true := by simpa using hb
        refine ⟨hb, by simpa using hd, hi.1, hi.2, isBytes_iff.2 ⟨by omega, fun x hx => ?_⟩⟩
        unfold data9 at hx
        obtain ⟨k, -, hx⟩ := List.mem_flatMap.1 hx
        unfold partIn sliceOf at hx
        exact (isBytes_iff.1 hb).2 x (List.mem_of_mem_drop (List.mem_of_mem_take (List.mem_of_mem_drop (List.mem_of_mem_take hx))))
      · simp at h
theorem damage_code {img data : List Int} {c : Int} (hb : isBytes img = true) (h : dataOfImage img = (data, c)) : c = 7 ↔ damaged9 img ≠ [] := by
  unfold dataOfImage at h
  rw [if_neg (by simp [hb])] at h
  split at h
  · rename_i hd
    simp only [Prod.mk.injEq] at h
    exact ⟨fun _ => hd, fun _ => h.2.symm⟩
  · rename_i hd
    split at h <;> simp only [Prod.mk.injEq] at h <;> exact ⟨fun e => by omega, fun e => absurd e hd⟩
/-- The byte stands in a block of the image. -/
theorem byte_block {n at_ k : Int} (h : blockOfByte n at_ = (k, 0)) : (0 ≤ n ∧ n ≤ 868) ∧ 0 ≤ k ∧ k.toNat < blocksOf n.toNat := by
  unfold blockOfByte at h
  split at h
  · rename_i hc
    have h1 := inRange_iff.1 hc.1
    simp only [Prod.mk.injEq, and_true] at h
    have hb := blocks_hi n.toNat
    exact ⟨h1, by omega, by omega⟩
  · simp at h

/-! ### wrong bits in one block -/
theorem bad_iff (k : Nat) {b : List Int} (hl : 5 ≤ b.length) (hb : ∀ x ∈ b, 0 ≤ x ∧ x ≤ 255) : bad9 k b = false ↔ fbs stdG (regS (k + 1)) (bl (bitsOf8 b)) = 0#24 := by
  have h := check_iff 1 ((k : Int) + 1) 0 0 0 0 0 (by omega : 3 ≤ b.length) hb
  have e1 : regFirst 1 ((k : Int) + 1) 0 0 0 0 0 = regS ((k : Int) + 1) := rfl
  have e2 : sealNum 1 ((k : Int) + 1) 0 0 0 0 0 (b.take (b.length - 3)) = checkOf k (b.take (b.length - 3)) := by
    unfold sealNum checkOf
    rfl
  rw [e1, e2] at h
  rw [← h]
  unfold bad9
  simp
  omega
theorem wrong_bad (k : Nat) {b b' : List Int} (hl : 5 ≤ b.length) (hle : b.length ≤ 33) (hlen : b'.length = b.length) (hb : ∀ x ∈ b, 0 ≤ x ∧ x ≤ 255) (hb' : ∀ x ∈ b', 0 ≤ x ∧ x ≤ 255)
    (hgood : bad9 k b = false) (h1 : 0 < weight (diffBits (bitsOf8 b) (bitsOf8 b'))) (h3 : weight (diffBits (bitsOf8 b) (bitsOf8 b')) ≤ 3) : bad9 k b' = true := by
  have hbl : (bitsOf8 b).length = (bitsOf8 b').length := by rw [show (bitsOf8 b).length = 8 * b.length from flat_len b, show (bitsOf8 b').length = 8 * b'.length from flat_len b', hlen]
  have hd := diff_synd (g := stdG) (r := regS ((k : Int) + 1)) hbl (bits8_in b) (bits8_in b') ((bad_iff k hl hb).1 hgood)
  have hnz := std_found (diff_bits (bitsOf8 b) (bitsOf8 b')) (by rw [diff_len hbl, show (bitsOf8 b).length = 8 * b.length from flat_len b]; omega) h1 h3
  rw [← hd] at hnz
  rcases hbad : bad9 k b' with _ | _
  · exact absurd ((bad_iff k (by omega) hb').1 hbad) hnz
  · rfl
theorem filter_one {n k : Nat} {p : Nat → Bool} (hk : k < n) (h : ∀ j, j < n → p j = decide (j = k)) : (List.range n).filter p = [k] := by
  have hc : (List.range n).filter p = (List.range n).filter fun j => decide (j = k) := List.filter_congr fun j hj => h j (List.mem_range.1 hj)
  rw [hc]
  obtain ⟨m, rfl⟩ : ∃ m, n = k + (1 + m) := ⟨n - k - 1, by omega⟩
  rw [List.range_add, List.filter_append, Nat.add_comm 1 m, List.range_succ_eq_map]
  have h1 : (List.range k).filter (fun j => decide (j = k)) = [] := by
    rw [List.filter_eq_nil_iff]; intro j hj; have := List.mem_range.1 hj; simp; omega
  rw [h1]
  simp only [List.map_cons, List.nil_append, List.map_map, Nat.add_zero]
  rw [List.filter_cons_of_pos (by simp)]
  have h2 : (List.map ((fun x => k + x) ∘ Nat.succ) (List.range m)).filter (fun j => decide (j = k)) = [] := by
    rw [List.filter_eq_nil_iff]; intro j hj; obtain ⟨i, -, rfl⟩ := List.mem_map.1 hj; simp
  rw [h2]
/-- Wrong bits in the block k alone: the block k alone is damaged. -/
theorem one_damaged {data w : List Int} {k : Nat} (hb : isBytes data = true) (hl : data.length ≤ 868) (hk : k < blocksOf data.length) (hlen : w.length = (image9 data).length) (hw : ∀ x ∈ w, 0 ≤ x ∧ x ≤ 255)
    (hother : ∀ j, j ≠ k → sliceOf w j = sliceOf (image9 data) j) (h1 : 0 < weight (diffBits (bitsOf8 (blockOf data k)) (bitsOf8 (sliceOf w k)))) (h3 : weight (diffBits (bitsOf8 (blockOf data k)) (bitsOf8 (sliceOf w k))) ≤ 3) : damaged9 w = [k] := by
  unfold damaged9
  rw [hlen, (image_slices data).1]
  refine filter_one hk fun j hj => ?_
  have hs := image_slice data k hk
  by_cases e : j = k
  · subst e
    have hlb := block_len data j
    have hle := block_le data j
    have hll : (sliceOf w j).length = (blockOf data j).length := by
      rw [← hs]; unfold sliceOf; rw [List.length_take, List.length_take, List.length_drop, List.length_drop, hlen]
    have hby := (isBytes_iff.1 (image_bytes hb hl)).2
    rw [wrong_bad j (by omega) hle hll (fun x hx => hby x (by rw [← hs] at hx; unfold sliceOf at hx; exact List.mem_of_mem_drop (List.mem_of_mem_take hx))) (fun x hx => hw x (by unfold sliceOf at hx; exact List.mem_of_mem_drop (List.mem_of_mem_take hx))) (block_good data j) h1 h3]
    simp
  · rw [hother j e, image_slice data j hj, block_good]
    simp [e]
end

section

theorem diff_tri : ∀ xs ys zs : List Int, xs.length = ys.length → ys.length = zs.length → weight (diffBits xs zs) ≤ weight (diffBits xs ys) + weight (diffBits ys zs)
  | [], [], [], _, _ => by simp [diffBits, weight]
  | x :: xs, y :: ys, z :: zs, h1, h2 => by
    have ih := diff_tri xs ys zs (by simpa using h1) (by simpa using h2)
    simp only [diffBits, List.zipWith_cons_cons, weight_cons] at ih ⊢
    by_cases a : x = y <;> by_cases b : y = z <;> by_cases c : x = z <;> simp [a, b, c] <;> first | omega | (exfalso; omega)
theorem diff_app (ps bs cs ds : List Int) (h : ps.length = cs.length) : weight (diffBits (ps ++ bs) (cs ++ ds)) = weight (diffBits ps cs) + weight (diffBits bs ds) := by
  unfold diffBits
  rw [List.zipWith_append h, weight_append]
theorem bits8_cons (x : Int) (xs : List Int) : bitsOf8 (x :: xs) = bitsOf x 8 ++ bitsOf8 xs := by simp [bitsOf8]
theorem diff8_set : ∀ (xs : List Int) (p : Nat) (v : Int), p < xs.length → weight (diffBits (bitsOf8 xs) (bitsOf8 (xs.set p v))) = weight (diffBits (bitsOf (xs.getD p 0) 8) (bitsOf v 8))
  | [], _, _, h => by simp at h
  | x :: xs, 0, v, _ => by
    rw [List.set_cons_zero, bits8_cons, bits8_cons, diff_app _ _ _ _ (by rw [bitsOf_len, bitsOf_len]), diff_self]
    simp [List.getD]
  | x :: xs, p + 1, v, h => by
    rw [List.set_cons_succ, bits8_cons, bits8_cons, diff_app _ _ _ _ rfl, diff_self, diff8_set xs p v (by simpa using h)]
    simp [List.getD]
/-- A byte with one bit turned, or none. -/
theorem flip_all : ∀ x, x < 256 → ∀ s, s < 8 → ∀ b, b < 2 → (x ^^^ (b <<< s)) < 256 ∧ weight (diffBits (bitsOf ((x : Nat) : Int) 8) (bitsOf ((x ^^^ (b <<< s) : Nat) : Int) 8)) ≤ 1 := by decide +kernel
theorem bits8_inj : ∀ xs ys : List Int, (∀ x ∈ xs, 0 ≤ x ∧ x ≤ 255) → (∀ y ∈ ys, 0 ≤ y ∧ y ≤ 255) → xs.length = ys.length → bitsOf8 xs = bitsOf8 ys → xs = ys
  | [], [], _, _, _, _ => rfl
  | x :: xs, y :: ys, hx, hy, hl, h => by
    rw [bits8_cons, bits8_cons] at h
    obtain ⟨h1, h2⟩ := List.append_inj h (by rw [bitsOf_len, bitsOf_len])
    have hx0 := hx x (by simp)
    have hy0 := hy y (by simp)
    have e : x = y := by
      rw [← numOf_bitsOf x 8 hx0.1 (by omega), ← numOf_bitsOf y 8 hy0.1 (by omega), h1]
    rw [e, bits8_inj xs ys (fun z hz => hx z (List.mem_cons_of_mem _ hz)) (fun z hz => hy z (List.mem_cons_of_mem _ hz)) (by simpa using hl) h2]
theorem slice_len (img : List Int) (k : Nat) : (sliceOf img k).length = min 33 (img.length - 33 * k) := by unfold sliceOf; rw [List.length_take, List.length_drop]
theorem slice_set_other (w : List Int) {k j i : Nat} (v : Int) (hi : i < 33) (hj : j ≠ k) : sliceOf (w.set (33 * k + i) v) j = sliceOf w j := by
  unfold sliceOf
  apply List.ext_getElem?
  intro n
  rw [List.getElem?_take, List.getElem?_take]
  split
  · rw [List.getElem?_drop, List.getElem?_drop, List.getElem?_set]
    rw [if_neg (by omega)]
  · rfl
theorem slice_set_same (w : List Int) {k i : Nat} (v : Int) (hi : i < 33) : sliceOf (w.set (33 * k + i) v) k = (sliceOf w k).set i v := by
  unfold sliceOf
  apply List.ext_getElem?
  intro n
  rw [List.getElem?_take, List.getElem?_drop, List.getElem?_set, List.getElem?_set, List.getElem?_take, List.getElem?_drop, List.length_take, List.length_drop]
  by_cases h1 : n < 33
  · by_cases h2 : i = n
    · subst h2
      simp only [if_true, if_pos h1]
      by_cases h3 : 33 * k + i < w.length
      · rw [if_pos h3, if_pos (by omega)]
      · rw [if_neg h3, if_neg (by omega)]
    · rw [if_pos h1, if_neg (by omega), if_neg h2, if_pos h1]
  · rw [if_neg h1, if_neg (by omega), if_neg h1]
/-- What the law's three turns keep: the length, bytes, the other blocks, and how many bits differ at most. -/
structure Wrong9 (img w : List Int) (k n : Nat) : Prop where
  len : w.length = img.length
  bytes : ∀ x ∈ w, 0 ≤ x ∧ x ≤ 255
  other : ∀ j, j ≠ k → sliceOf w j = sliceOf img j
  few : weight (diffBits (bitsOf8 (sliceOf img k)) (bitsOf8 (sliceOf w k))) ≤ (n : Int)
theorem Wrong9.start {img : List Int} {k : Nat} (hb : ∀ x ∈ img, 0 ≤ x ∧ x ≤ 255) : Wrong9 img img k 0 := ⟨rfl, hb, fun _ _ => rfl, by rw [diff_self]; exact Int.le_refl _⟩
theorem Wrong9.step {img w : List Int} {k n i x s b : Nat} (h : Wrong9 img w k n) (hi : i < (sliceOf img k).length) (hx : w.getD (33 * k + i) 0 = (x : Int)) (hs : s < 8) (hb : b < 2) : Wrong9 img (w.set (33 * k + i) ((x ^^^ (b <<< s) : Nat) : Int)) k (n + 1) := by
  have hsl := slice_len img k
  have hsw := slice_len w k
  rw [h.len] at hsw
  have hi33 : i < 33 := by omega
  have hp : 33 * k + i < w.length := by rw [h.len]; omega
  have hxm : (x : Int) ∈ w := by
    rw [← hx]
    simp only [List.getD, List.getElem?_eq_getElem hp, Option.getD_some]
    exact List.getElem_mem hp
  have hx255 := h.bytes _ hxm
  obtain ⟨f1, f2⟩ := flip_all x (by omega) s hs b hb
  have hsx : (sliceOf w k).getD i 0 = (x : Int) := by
    rw [← hx]
    unfold sliceOf
    simp only [List.getD]
    rw [List.getElem?_take, if_pos hi33, List.getElem?_drop]
  refine ⟨by rw [List.length_set, h.len], fun y hy => ?_, fun j hj => by rw [slice_set_other w _ hi33 hj, h.other j hj], ?_⟩
  · rcases List.mem_or_eq_of_mem_set hy with hy | rfl
    · exact h.bytes y hy
    · omega
  · have hlb : ∀ zs : List Int, (bitsOf8 zs).length = 8 * zs.length := fun zs => flat_len zs
    have ht := diff_tri (bitsOf8 (sliceOf img k)) (bitsOf8 (sliceOf w k)) (bitsOf8 ((sliceOf w k).set i ((x ^^^ (b <<< s) : Nat) : Int))) (by rw [hlb, hlb]; omega) (by rw [hlb, hlb, List.length_set])
    rw [diff8_set (sliceOf w k) i _ (by omega), hsx] at ht
    rw [slice_set_same w _ hi33]
    have hf := h.few
    push_cast
    omega
/-- Behind the turns: nothing is changed, or the block k alone is damaged. -/
theorem Wrong9.fin {data w : List Int} {k n : Nat} (h : Wrong9 (image9 data) w k n) (hn : n ≤ 3) (hb : isBytes data = true) (hl : data.length ≤ 868) (hk : k < blocksOf data.length) : w = image9 data ∨ damaged9 w = [k] := by
  have hs := image_slice data k hk
  have hfew := h.few
  rw [hs] at hfew
  have h0 := (weight_bound _ (diff_bits (bitsOf8 (blockOf data k)) (bitsOf8 (sliceOf w k)))).1
  have hib := (isBytes_iff.1 (image_bytes hb hl)).2
  rcases Int.lt_or_eq_of_le h0 with hp | hz
  · exact .inr (one_damaged hb hl hk h.len h.bytes h.other hp (by omega))
  · left
    have hll : (sliceOf w k).length = (blockOf data k).length := by rw [← hs, slice_len, slice_len, h.len]
    have hlb : ∀ zs : List Int, (bitsOf8 zs).length = 8 * zs.length := fun zs => flat_len zs
    have e := bits8_inj (blockOf data k) (sliceOf w k) (fun x hx => hib x (by rw [← hs] at hx; unfold sliceOf at hx; exact List.mem_of_mem_drop (List.mem_of_mem_take hx))) (fun x hx => h.bytes x (by unfold sliceOf at hx; exact List.mem_of_mem_drop (List.mem_of_mem_take hx))) hll.symm (diff_zero _ _ (by rw [hlb, hlb, hll]) hz.symm)
    obtain ⟨c, hc⟩ : ∃ c, (image9 data).length ≤ 33 * c := ⟨(image9 data).length, by omega⟩
    rw [← join_slices w (c := c) (by rw [h.len]; exact hc), ← join_slices (image9 data) hc]
    refine flat_congr _ fun j _ => ?_
    by_cases ej : j = k
    · subst ej; rw [hs, ← e]
    · exact h.other j ej
end
end Go.Proofs.Ytckaknaeddiphaa
