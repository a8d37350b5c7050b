/-
  What the laws of chapter 18 say. No function is walked here.
-/
import Derived.Test.YtilkopbfbmibgaaLi0
import Derived.Test.YtilkopbfbmibgaaDrawB
namespace Go.Proofs.Ytilkopbfbmibgaa

theorem lineOf_yes {xs : List Int} (h : isBits xs = true) {i p : Nat} {d : List Int} (e : parseL xs = some (i, p, d)) : lineOf xs = (((i : Int), (p : Int), d), 0) := by
  unfold lineOf; rw [if_neg (by rw [h]; simp), e]
theorem lineOf_get {xs : List Int} {i p : Int} {d : List Int} (h : lineOf xs = ((i, p, d), 0)) : isBits xs = true ∧ ∃ j q : Nat, parseL xs = some (j, q, d) ∧ i = j ∧ p = q := by
  unfold lineOf at h
  split at h
  · cases h
  · rename_i hb
    refine ⟨by simpa using hb, ?_⟩
    split at h
    · cases h
    · rename_i j q e heq
      simp only [Prod.mk.injEq, and_true] at h
      obtain ⟨rfl, rfl, rfl⟩ := h
      exact ⟨j, q, heq, rfl, rfl⟩
theorem line_bits {xs : List Int} {p b a : Nat} (hl : b + (p + 3 + 10 * xs.length) + a ≤ 8192) : isBits (List.replicate b 1 ++ cellsL xs p ++ List.replicate a 1) = true := by
  refine isBits_iff.2 ⟨?_, ?_⟩
  · rw [List.length_append, List.length_append, List.length_replicate, List.length_replicate, cellsL_len]; exact hl
  · intro x hx
    simp only [List.mem_append, List.mem_replicate] at hx
    rcases hx with (⟨-, rfl⟩ | hx) | ⟨-, rfl⟩
    · omega
    · exact cellsL_bits xs p x hx
    · omega
theorem cellsOf_get {xs cs : List Int} {p : Int} (h : cellsOf xs p = (cs, 0)) : isBytes xs = true ∧ (3 ≤ p ∧ p ≤ 15) ∧ p + 3 + 10 * (xs.length : Int) ≤ 8192 ∧ cs = cellsL xs p.toNat := by
  unfold cellsOf at h
  split at h
  · cases h
  · rename_i h1
    split at h
    · cases h
    · rename_i h2
      split at h
      · cases h
      · rename_i h3
        exact ⟨by simpa using h1, isPre_iff.1 (by simpa using h2), by omega, (congrArg Prod.fst h).symm⟩
/-- Bytes are recovered from their line. -/
theorem lines_law {xs cs : List Int} {p b a : Int} (h : cellsOf xs p = (cs, 0)) (hl : cs.length ≤ 8000) (hb : 0 ≤ b ∧ b ≤ 19) (ha : 0 ≤ a ∧ a ≤ 19) :
    ∃ L, padLine cs b a = (L, 0) ∧ L.length ≤ 8192 ∧ lineOf L = ((b, p, xs), 0) ∧ transmissionSize (xs.length : Int) p = ((cs.length : Int), 0) := by
  obtain ⟨h1, h2, h3, rfl⟩ := cellsOf_get h
  obtain ⟨q, rfl⟩ : ∃ q : Nat, p = q := ⟨p.toNat, by omega⟩
  obtain ⟨u, rfl⟩ : ∃ q : Nat, b = q := ⟨b.toNat, by omega⟩
  obtain ⟨v, rfl⟩ : ∃ q : Nat, a = q := ⟨a.toNat, by omega⟩
  rw [Int.toNat_natCast] at hl ⊢
  have hc := cellsL_len xs q
  obtain ⟨n1, hx⟩ := isBytes_iff.1 h1
  have hbits : isBits (cellsL xs q) = true := isBits_iff.2 ⟨by omega, cellsL_bits xs q⟩
  refine ⟨List.replicate u 1 ++ cellsL xs q ++ List.replicate v 1, ?_, ?_, ?_, ?_⟩
  · unfold padLine
    rw [if_neg (by rw [hbits]; simp), if_neg (by omega), if_neg (by omega), Int.toNat_natCast, Int.toNat_natCast]
  · rw [List.length_append, List.length_append, List.length_replicate, List.length_replicate]; omega
  · exact lineOf_yes (line_bits (by omega)) (parse_line hx (by omega))
  · unfold transmissionSize
    rw [if_pos ⟨by omega, isPre_iff.2 (by omega)⟩, hc]
    congr 1

/-! ### the cells of the data -/
theorem placesTo_next (at_ : Int) (n : Nat) : placesTo at_ (n + 1) = ((List.range 8).map fun (k : Nat) => at_ + 2 + (k : Int)) ++ placesTo (at_ + 10) n := by
  unfold placesTo
  rw [List.range_succ_eq_map (n := n), List.flatMap_cons, List.flatMap_map]
  congr 1
  · refine List.map_congr_left fun k _ => ?_
    simp
  · refine congrArg (fun f => List.flatMap f (List.range n)) (funext fun i => List.map_congr_left fun k _ => ?_)
    simp only [Nat.succ_eq_add_one]
    omega
theorem placesTo_len (at_ : Int) (n : Nat) : (placesTo at_ n).length = 8 * n := by
  induction n generalizing at_ with
  | zero => rfl
  | succ n ih => rw [placesTo_next, List.length_append, ih, List.length_map, List.length_range]; omega
theorem placesTo_in {at_ : Int} : ∀ {n : Nat} {q : Int}, q ∈ placesTo at_ n → at_ ≤ q ∧ q < at_ + 10 * (n : Int) := by
  intro n q h
  unfold placesTo at h
  simp only [List.mem_flatMap, List.mem_map, List.mem_range] at h
  obtain ⟨i, hi, k, hk, rfl⟩ := h
  omega
theorem eight_cells (P R : List Int) (b : Int) : ((List.range 8).map fun (k : Nat) => (P ++ (byteCells b ++ R)).getD (((P.length : Int) + 2 + (k : Int)).toNat) 0) = bitsOf b 8 := by
  refine List.ext_getElem (by simp [bitsOf_len]) fun k h1 h2 => ?_
  rw [bitsOf_len] at h2
  rw [List.getElem_map, List.getElem_range, show ((P.length : Int) + 2 + (k : Int)).toNat = P.length + (2 + k) from by omega]
  simp only [List.getD, byteCells, List.cons_append]
  rw [List.getElem?_append_right (by omega), show P.length + (2 + k) - P.length = k + 1 + 1 from by omega, List.getElem?_cons_succ, List.getElem?_cons_succ, List.getElem?_append_left (by rw [bitsOf_len]; omega), List.getElem?_eq_getElem (by rw [bitsOf_len]; omega)]
  rfl
theorem places_bits : ∀ (d P R : List Int), (placesTo (P.length : Int) d.length).map (fun q => (P ++ (d.flatMap byteCells ++ R)).getD q.toNat 0) = d.flatMap (bitsOf · 8)
  | [], P, R => rfl
  | b :: d, P, R => by
    have e : P ++ ((b :: d).flatMap byteCells ++ R) = (P ++ byteCells b) ++ (d.flatMap byteCells ++ R) := by rw [List.flatMap_cons]; simp
    have ih := places_bits d (P ++ byteCells b) R
    have hl : ((P ++ byteCells b).length : Int) = (P.length : Int) + 10 := by rw [List.length_append, byteCells_len]; omega
    rw [hl] at ih
    rw [List.length_cons, placesTo_next, List.map_append, e, ih, List.map_map, List.flatMap_cons]
    congr 1
    have h8 := eight_cells P (d.flatMap byteCells ++ R) b
    rw [← List.append_assoc] at h8
    exact h8
/-- A line is its transmission with idle cells around it; its data cells hold its bytes. -/
theorem read_law {ys d : List Int} {i p : Int} (h : lineOf ys = ((i, p, d), 0)) :
    ∃ cs pl, cellsOf d p = (cs, 0) ∧ padLine cs i ((ys.length : Int) - i - (cs.length : Int)) = (ys, 0) ∧ dataCells ys = (pl, 0) ∧ pl.length = 8 * d.length ∧ d.length ≤ 1024 ∧ cs.length ≤ 8192 ∧ ys.length ≤ 8192 ∧
      (∀ q ∈ pl, 0 ≤ q ∧ q < (ys.length : Int)) ∧ bitsToBytes (pl.map fun q => ys.getD q.toNat 0) = (d, 0) := by
  obtain ⟨hb, j, q, hp, rfl, rfl⟩ := lineOf_get h
  obtain ⟨hn, hbits⟩ := isBits_iff.1 hb
  obtain ⟨h1, h2, h3, h4⟩ := parse_back hbits hp
  have hc := cellsL_len d q
  have hd : isBytes d = true := isBytes_iff.2 ⟨by omega, h2⟩
  have hcb : isBits (cellsL d q) = true := isBits_iff.2 ⟨by omega, cellsL_bits d q⟩
  refine ⟨cellsL d q, placesTo ((j : Int) + (q : Int) + 1) d.length, ?_, ?_, ?_, placesTo_len _ _, (isBytes_iff.1 hd).1, by omega, hn, ?_, ?_⟩
  · unfold cellsOf
    rw [if_neg (by rw [hd]; simp), if_neg (by rw [isPre_iff.2 (by omega)]; simp), if_neg (by omega), Int.toNat_natCast]
  · unfold padLine
    rw [if_neg (by rw [hcb]; simp), if_neg (by omega), if_neg (by omega), Int.toNat_natCast, show ((ys.length : Int) - (j : Int) - ((cellsL d q).length : Int)).toNat = ys.length - j - (q + 3 + 10 * d.length) from by omega, ← h4]
  · unfold dataCells
    rw [h, if_pos rfl]
  · intro z hz
    have := placesTo_in hz
    omega
  · have e : ys = (List.replicate j 1 ++ List.replicate q 0 ++ [1]) ++ (d.flatMap byteCells ++ (0 :: 1 :: List.replicate (ys.length - j - (q + 3 + 10 * d.length)) 1)) := by
      conv => lhs; rw [h4]
      simp [cellsL]
    have hl : ((List.replicate j (1 : Int) ++ List.replicate q 0 ++ [1]).length : Int) = (j : Int) + (q : Int) + 1 := by simp; omega
    have hpb := places_bits d (List.replicate j 1 ++ List.replicate q 0 ++ [1]) (0 :: 1 :: List.replicate (ys.length - j - (q + 3 + 10 * d.length)) 1)
    rw [hl, ← e] at hpb
    rw [hpb]
    exact (bytes_round (xs := d) (out := d.flatMap (bitsOf · 8)) (by unfold bytesToBits; rw [if_neg (by rw [hd]; simp)])).2
theorem isLine_code (xs : List Int) : isLine xs = ((lineOf xs).2 == 0) := rfl
/-- Padding: the length, the middle, the sum. -/
theorem padded_law {xs L : List Int} {b a : Int} (h : padLine xs b a = (L, 0)) :
    0 ≤ b ∧ b ≤ 8192 ∧ 0 ≤ a ∧ a ≤ 8192 ∧ L.length ≤ 8192 ∧ (L.length : Int) = (xs.length : Int) + b + a ∧ (L.drop b.toNat).take xs.length = xs ∧ L.sum = xs.sum + b + a := by
  unfold padLine at h
  split at h
  · cases h
  · split at h
    · cases h
    · rename_i h2
      split at h
      · cases h
      · rename_i h3
        obtain ⟨u, rfl⟩ : ∃ q : Nat, b = q := ⟨b.toNat, by omega⟩
        obtain ⟨v, rfl⟩ : ∃ q : Nat, a = q := ⟨a.toNat, by omega⟩
        rw [Int.toNat_natCast, Int.toNat_natCast] at h
        have e := (congrArg Prod.fst h).symm
        simp only at e
        subst e
        have hs : ∀ n : Nat, (List.replicate n (1 : Int)).sum = n := by
          intro n
          induction n with
          | zero => rfl
          | succ n ih => rw [List.replicate_succ, List.sum_cons, ih]; omega
        refine ⟨by omega, by omega, by omega, by omega, ?_, ?_, ?_, ?_⟩
        · simp only [List.length_append, List.length_replicate]; omega
        · simp only [List.length_append, List.length_replicate]; omega
        · rw [Int.toNat_natCast, List.append_assoc, List.drop_append_of_le_length (by simp), List.drop_of_length_le (by simp), List.nil_append, List.take_append_of_le_length (Nat.le_refl _), List.take_length]
        · rw [List.sum_append, List.sum_append, hs, hs]; omega
end Go.Proofs.Ytilkopbfbmibgaa
