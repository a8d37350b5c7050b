/-
  DrawBytesToBits, DrawBitsToBytes, DrawFlipBits, DrawDifferingBits, DrawBitsText; bytes are recovered from their bits; flipping the differing bits turns one list into the other.
  spec.l01Damage and DrawReadBits.
-/
import Derived.Test.YtbdfnkhmnglpbaaDrawA
import Derived.Test.YtbdfnkhmnglpbaaOneB
import Derived.Deep.RegionWith
import Derived.Handy
namespace Go.Proofs.Ytbdfnkhmnglpbaa
section
open Go.RowKit

/-- The code reads on while the call makes memory of its own. -/
theorem rdB_later {w w' : World} {n : Nat} {ao : Option Addr} {cs : List Int} (h : RdB w w.heap.size ao n cs) (b : Below w.heap.size w w') : RdB w' w'.heap.size ao n cs := by
  have h1 := h.keep (w' := w') fun b' o hb => b.cell (p := ⟨b', o, none⟩) hb
  exact ⟨h1.len, fun hn => by
    obtain ⟨b', off, e, hb, hc⟩ := h1.here hn
    exact ⟨b', off, e, Nat.lt_of_lt_of_le hb b.size, hc⟩, h1.bound⟩
/-- What a draw of two slices leaves. -/
def Drawn2 (E : Nat) (w : World) (e : Ending) (w' : World) : Prop :=
  ∃ v xs v' ys, e = .returned (.tuple #[v, v']) ∧ Own E w' w.heap.size v xs ∧ Own E w' w.heap.size v' ys ∧ xs.length ≤ 9000 ∧ ys.length ≤ 9000 ∧ Below w.heap.size w w'
theorem flat_drop (xs : List Int) (i : Nat) (h : i < xs.length) : ((xs.flatMap (bitsOf · 8)).drop (8 * i)).take 8 = bitsOf (xs.getD i 0) 8 := by
  induction xs generalizing i with
  | nil => simp at h
  | cons x xs ih =>
    rw [List.flatMap_cons]
    cases i with
    | zero => simp only [Nat.mul_zero, List.drop_zero, List.getD_cons_zero]; rw [List.take_append_of_le_length (by rw [bitsOf_len]; exact Nat.le_refl _), List.take_of_length_le (by rw [bitsOf_len]; exact Nat.le_refl _)]
    | succ i =>
      rw [show 8 * (i + 1) = (bitsOf x 8).length + 8 * i from by rw [bitsOf_len]; omega, List.drop_append, List.drop_of_length_le (by omega), List.nil_append, Nat.add_sub_cancel_left, List.getD_cons_succ]
      exact ih i (by simpa using h)
theorem bytes_round {xs out : List Int} (h : bytesToBits xs = (out, 0)) : out.length = 8 * xs.length ∧ bitsToBytes out = (xs, 0) := by
  unfold bytesToBits at h
  split at h
  · cases h
  · rename_i h1
    have h1 := isBytes_iff.1 (by simpa using h1)
    simp only [Prod.mk.injEq, and_true] at h
    subst h
    have hl := flat_len xs
    refine ⟨hl, ?_⟩
    rw [bi_0 (isBits_iff.2 ⟨by omega, fun x hx => ?_⟩) (by omega)]
    · rw [hl, show 8 * xs.length / 8 = xs.length from by omega]
      congr 1
      apply List.ext_getElem (by rw [bytesTo_len])
      intro i h2 h3
      have e : (bytesTo (xs.flatMap (bitsOf · 8)) xs.length).getD i 0 = xs.getD i 0 := by
        rw [bytesTo_getD _ _ _ h3, flat_drop xs i h3]
        have := h1.2 _ (getD_mem' h3)
        exact numOf_bitsOf _ 8 this.1 (by omega)
      rw [List.getD, List.getElem?_eq_getElem h2, List.getD, List.getElem?_eq_getElem h3] at e
      exact e
    · obtain ⟨y, _, hy⟩ := List.mem_flatMap.1 hx
      exact bitsOf_bits y 8 x hy
theorem stepOk_mono {n m : Int} {ids : List Int} {i : Nat} (h : stepOk n ids i) (hnm : n ≤ m) : stepOk m ids i := ⟨h.1, by have := h.2; omega⟩
theorem getD_append_left (ids : List Int) (x : Int) (i : Nat) (h : i < ids.length) : (ids ++ [x]).getD i 0 = ids.getD i 0 := by simp [List.getD, List.getElem?_append, h]
theorem getD_append_last (ids : List Int) (x : Int) : (ids ++ [x]).getD ids.length 0 = x := by simp [List.getD]
theorem prev_append (ids : List Int) (x : Int) (i : Nat) (h : i ≤ ids.length) : prev (ids ++ [x]) i = prev ids i := by
  unfold prev
  split
  · rfl
  · exact getD_append_left ids x _ (by omega)
theorem diffTo_ok (xs ys : List Int) (k : Nat) : ∀ i, i < (diffTo xs ys k).length → stepOk k (diffTo xs ys k) i := by
  induction k with
  | zero => intro i hi; simp [diffTo] at hi
  | succ k ih =>
    intro i hi
    by_cases h : (xs.getD k 0 != ys.getD k 0) = true
    · rw [diffTo_ne h] at hi ⊢
      rw [List.length_append, List.length_singleton] at hi
      rcases Nat.lt_succ_iff_lt_or_eq.1 hi with h1 | rfl
      · have h2 := ih i h1
        exact ⟨by rw [prev_append _ _ _ (by omega), getD_append_left _ _ _ h1]; exact h2.1, by rw [getD_append_left _ _ _ h1]; have := h2.2; omega⟩
      · refine ⟨?_, by rw [getD_append_last]; omega⟩
        rw [prev_append _ _ _ (Nat.le_refl _), getD_append_last]
        rcases hl : (diffTo xs ys k).length with _ | l
        · rw [prev_zero]; omega
        · rw [prev_succ]
          have := (ih l (by omega)).2
          omega
    · have h' : (xs.getD k 0 != ys.getD k 0) = false := by simpa using h
      rw [diffTo_eq h'] at hi ⊢
      exact stepOk_mono (ih i hi) (by omega)
theorem flips_diff (xs ys : List Int) (hl : xs.length = ys.length) (hx : ∀ x ∈ xs, 0 ≤ x ∧ x ≤ 1) (hy : ∀ y ∈ ys, 0 ≤ y ∧ y ≤ 1) (k : Nat) (hk : k ≤ xs.length) : flips xs (diffTo xs ys k) = ys.take k ++ xs.drop k := by
  induction k with
  | zero => simp [diffTo, flips]
  | succ k ih =>
    have hkx : k < xs.length := by omega
    have hky : k < ys.length := by omega
    have htl : (ys.take k).length = k := by rw [List.length_take]; omega
    have hd : xs.drop k = xs.getD k 0 :: xs.drop (k + 1) := by
      rw [List.drop_eq_getElem_cons hkx, List.getD, List.getElem?_eq_getElem hkx]; rfl
    by_cases h : (xs.getD k 0 != ys.getD k 0) = true
    · rw [diffTo_ne h, flips_snoc, ih (by omega), Int.toNat_natCast, hd]
      have hg : (ys.take k ++ xs.getD k 0 :: xs.drop (k + 1)).getD k 0 = xs.getD k 0 := by
        rw [List.getD, List.getElem?_append_right (by omega), htl, Nat.sub_self]; rfl
      have h1 := hx _ (getD_mem' hkx)
      have h2 := hy _ (getD_mem' hky)
      have hne : xs.getD k 0 ≠ ys.getD k 0 := by simpa using h
      rw [hg, show 1 - xs.getD k 0 = ys.getD k 0 from by omega, List.set_append_right _ _ (by omega), htl, Nat.sub_self, List.set_cons_zero, take_succ' ys k hky]
      simp
    · have h' : (xs.getD k 0 != ys.getD k 0) = false := by simpa using h
      have he : xs.getD k 0 = ys.getD k 0 := by simpa using h'
      rw [diffTo_eq h', ih (by omega), hd, take_succ' ys k hky, he]
      simp
/-- Flipping the differing bits of two lists turns one into the other. -/
theorem flips_round {xs ys d : List Int} (h : differingBits xs ys = (d, 0)) : flipBits xs d = (ys, 0) := by
  unfold differingBits at h
  split at h
  · cases h
  · split at h
    · cases h
    · rename_i h1 h2
      obtain ⟨ha, hb⟩ := not_or.1 h1
      have ha : isBits xs = true := by simpa using ha
      have hb : isBits ys = true := by simpa using hb
      have hl : xs.length = ys.length := by simpa using h2
      simp only [Prod.mk.injEq, and_true] at h
      subst h
      rw [fb_0 ha (rises_iff.2 fun i hi => diffTo_ok xs ys _ i hi), flips_diff xs ys hl (isBits_iff.1 ha).2 (isBits_iff.1 hb).2 _ (Nat.le_refl _)]
      rw [List.drop_length, List.append_nil, hl, List.take_length]
end

section
open Go.RowKit

/-- What a draw of a text leaves. -/
def DrawnText (T : Nat) (w : World) (p m : Nat) (e : Ending) (w' : World) : Prop :=
  ∃ s : ByteArray, e = .returned (.string s) ∧ s.size ≤ m ∧ Src T w' p ∧ w.grownBy w' (some p)

def tabText (z : Nat) : ByteArray := match z with | 0 => ⟨#[48]⟩ | 1 => ⟨#[49]⟩ | 2 => ⟨#[32]⟩ | 3 => ⟨#[58]⟩ | 4 => ⟨#[45]⟩ | 5 => ⟨#[97]⟩ | 6 => ⟨#[47]⟩ | _ => ⟨#[10]⟩
theorem tabText_size (z : Nat) : (tabText z).size = 1 := by unfold tabText; split <;> rfl
abbrev tabCells : Array Value := #[.string ⟨#[48]⟩, .string ⟨#[49]⟩, .string ⟨#[32]⟩, .string ⟨#[58]⟩, .string ⟨#[45]⟩, .string ⟨#[97]⟩, .string ⟨#[47]⟩, .string ⟨#[10]⟩]
theorem tab_at (z : Nat) (h : z < 8) : tabCells[z]? = some (.string (tabText z)) := by
  match z, h with
  | 0, _ | 1, _ | 2, _ | 3, _ | 4, _ | 5, _ | 6, _ | 7, _ => rfl
theorem tab_list (z : Nat) (h : z < 8) : ([.string ⟨#[48]⟩, .string ⟨#[49]⟩, .string ⟨#[32]⟩, .string ⟨#[58]⟩, .string ⟨#[45]⟩, .string ⟨#[97]⟩, .string ⟨#[47]⟩, .string ⟨#[10]⟩] : List Value)[z]? = some (.string (tabText z)) := by
  match z, h with
  | 0, _ | 1, _ | 2, _ | 3, _ | 4, _ | 5, _ | 6, _ | 7, _ => rfl
theorem tab_alloc (z : Nat) (h : z < 8) : ∀ W : World, (W.alloc (.cells tabCells 9)).cell? ⟨W.heap.size, z, none⟩ = some (.string (tabText z)) := fun W => by
  rw [World.cell?_alloc_at _ _ _ _ rfl]; exact tab_at z h
theorem tab_later {W w' : World} {p g : Nat} (hg : W.grownBy w' (some p)) (hW : W.heap[g]? = some (.cells tabCells 9 (0, 0))) (hp : g ≠ p) (z : Nat) (h : z < 8) : w'.cell? ⟨g, z, none⟩ = some (.string (tabText z)) := by
  have hlt := (Array.getElem?_eq_some_iff.1 hW).1
  rw [cell_of_row w' g z _ _ _ ((hg.block g hlt (by simpa using hp)).trans hW)]
  exact tab_at z h
/-- The two sums of a text that is cut and joined around a short one. -/
theorem add_texts {P : Program} (t u : ByteArray) (k : Nat) (hu : u.size ≤ 1) (ht : t.size ≤ 1000000) :
    (∀ w : World, (Op.stringOp .add (t.extract 0 k) u).run P w = .ok (.string (t.extract 0 k ++ u)) w) ∧
    (∀ w : World, (Op.stringOp .add (t.extract 0 k ++ u) (t.extract k t.size)).run P w = .ok (.string (t.extract 0 k ++ u ++ t.extract k t.size)) w) := by
  refine ⟨fun w => run_string_add_sum w _ _ ?_, fun w => run_string_add_sum w _ _ ?_⟩
  · rw [ByteArray.size_extract]; omega
  · rw [ByteArray.size_append, ByteArray.size_extract, ByteArray.size_extract]; omega
theorem bitsText_size (xs : List Int) : (bitsText xs).size ≤ 8192 := by
  unfold bitsText
  split
  · simp
  · rename_i h
    have h := (isBits_iff.1 (by simpa using h)).1
    rw [strOfNums_size, List.length_map]; exact h
/-- What a draw of a text leaves to the law. -/
def DrawnT (w : World) (e : Ending) (w' : World) : Prop := ∃ s : ByteArray, e = .returned (.string s) ∧ s.size ≤ 1000000 ∧ Below w.heap.size w w'
theorem nums_strOf (xs : List Int) (h : ∀ x ∈ xs, 0 ≤ x ∧ x ≤ 255) : nums (strOfNums xs) = xs := by
  unfold nums
  rw [strOfNums_data, List.map_map]
  refine (List.map_congr_left fun x hx => ?_).trans (List.map_id xs)
  have := h x hx
  obtain ⟨n, rfl⟩ := Int.eq_ofNat_of_zero_le this.1
  simp only [Function.comp, Int.toNat_natCast, id_eq]
  rw [UInt8.toNat_ofNat']
  omega
/-- A bit list is recovered from its text; a list that is none has the empty text. -/
theorem text_round (xs : List Int) : ∃ ys, readBits (nums (bitsText xs)) = (ys, true) ∧ (isBits xs = true → ys = xs) := by
  by_cases hb : isBits xs = true
  · refine ⟨xs, ?_, fun _ => rfl⟩
    have h := isBits_iff.1 hb
    rw [bt_yes hb, nums_strOf _ (by
      intro x hx
      obtain ⟨y, hy, rfl⟩ := List.mem_map.1 hx
      have := h.2 y hy
      omega)]
    rw [rb_yes (by rw [List.length_map]; omega) (by
      rw [List.all_eq_true]
      intro x hx
      obtain ⟨y, hy, rfl⟩ := List.mem_map.1 hx
      have := h.2 y hy
      have h2 : y = 0 ∨ y = 1 := by omega
      rcases h2 with rfl | rfl <;> rfl)]
    rw [List.map_map]
    congr 1
    refine (List.map_congr_left fun x _ => ?_).trans (List.map_id xs)
    simp only [Function.comp, id_eq]
    omega
  · have hb' : isBits xs = false := by simpa using hb
    exact ⟨[], by rw [bt_no hb']; rfl, fun h => absurd h hb⟩
end
end Go.Proofs.Ytbdfnkhmnglpbaa
