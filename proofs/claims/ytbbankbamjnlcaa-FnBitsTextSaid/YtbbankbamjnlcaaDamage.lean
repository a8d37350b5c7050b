/-
  spec.l01Damage and DrawReadBits.
-/
import Derived.Test.YtbbankbamjnlcaaHeldS
import Derived.Test.YtbbankbamjnlcaaC1h
import Derived.Deep.RegionWith
import Derived.Handy
namespace Go.Proofs.Ytbbankbamjnlcaa
open Go.RowKit

/-- What a draw of a text leaves. -/
def DrawnText (T : Nat) (w : World) (p m : Nat) (e : Ending) (w' : World) : Prop :=
  ∃ s : ByteArray, e = .returned (.string s) ∧ s.size ≤ m ∧ Src T w' p ∧ w.grownBy w' (some p)

def tabText (z : Nat) : ByteArray := match z with | 0 => ⟨#[48]⟩ | 1 => ⟨#[49]⟩ | 2 => ⟨#[32]⟩ | 3 => ⟨#[58]⟩ | 4 => ⟨#[45]⟩ | 5 => ⟨#[97]⟩ | 6 => ⟨#[47]⟩ | _ => ⟨#[10]⟩
theorem tabText_size (z : Nat) : (tabText z).size = 1 := by unfold tabText; split <;> rfl
abbrev tabCells : Array Value := #[.string ⟨#[48]⟩, .string ⟨#[49]⟩, .string ⟨#[32]⟩, .string ⟨#[58]⟩, .string ⟨#[45]⟩, .string ⟨#[97]⟩, .string ⟨#[47]⟩, .string ⟨#[10]⟩]
theorem tab_at (z : Nat) (h : z < 8) : tabCells[z]? = some (.string (tabText z)) := by
  match z, h with
  | 0, _ | 1, _ | 2, _ | 3, _ | 4, _ | 5, _ | 6, _ | 7, _ => rfl
theorem tab_list (z : Nat) (h : z < 8) : ([.string ⟨#[48]⟩, .string ⟨#[49]⟩, .string ⟨#[32]⟩, .string ⟨#[58]⟩, .string ⟨#[45]⟩, .string ⟨#[97]⟩, .string ⟨#[47]⟩, .string ⟨#[10]⟩] : List Value)[z]? = some (.string (tabText z)) := by
  match z, h with
  | 0, _ | 1, _ | 2, _ | 3, _ | 4, _ | 5, _ | 6, _ | 7, _ => rfl
theorem tab_alloc (z : Nat) (h : z < 8) : ∀ W : World, (W.alloc (.cells tabCells 9)).cell? ⟨W.heap.size, z, none⟩ = some (.string (tabText z)) := fun W => by
  rw [World.cell?_alloc_at _ _ _ _ rfl]; exact tab_at z h
theorem tab_later {W w' : World} {p g : Nat} (hg : W.grownBy w' (some p)) (hW : W.heap[g]? = some (.cells tabCells 9 (0, 0))) (hp : g ≠ p) (z : Nat) (h : z < 8) : w'.cell? ⟨g, z, none⟩ = some (.string (tabText z)) := by
  have hlt := (Array.getElem?_eq_some_iff.1 hW).1
  rw [cell_of_row w' g z _ _ _ ((hg.block g hlt (by simpa using hp)).trans hW)]
  exact tab_at z h
/-- The two sums of a text that is cut and joined around a short one. -/
theorem add_texts {P : Program} (t u : ByteArray) (k : Nat) (hu : u.size ≤ 1) (ht : t.size ≤ 1000000) :
    (∀ w : World, (Op.stringOp .add (t.extract 0 k) u).run P w = .ok (.string (t.extract 0 k ++ u)) w) ∧
    (∀ w : World, (Op.stringOp .add (t.extract 0 k ++ u) (t.extract k t.size)).run P w = .ok (.string (t.extract 0 k ++ u ++ t.extract k t.size)) w) := by
  refine ⟨fun w => run_string_add_sum w _ _ ?_, fun w => run_string_add_sum w _ _ ?_⟩
  · rw [ByteArray.size_extract]; omega
  · rw [ByteArray.size_append, ByteArray.size_extract, ByteArray.size_extract]; omega
theorem damage_any (p : Nat) (t : ByteArray) (w : World) (hs : Src 63 w p) (ht : t.size ≤ 1000000) :
    Calls Try.prog 71 #[.pointer (some ⟨p, 0, none⟩), .string t] w (DrawnText 63 w p (t.size + 1)) := by
  go_enter Try.func71, Try.ntmps71
  go_wp2_with fail
  refine (next_any _ _ _ hs (by omega)).mono ?_
  rintro e w1 ⟨k, rfl, hk0, hk1, hk2, hs1, g1⟩
  have hk3 : k ≤ t.size := by omega
  obtain ⟨k, rfl⟩ := Int.eq_ofNat_of_zero_le hk0
  have hk4 : k ≤ t.size := by omega
  clear hk0 hk1 hk2 hk3 hs
  go_wp2_with fail
  refine (next_any _ _ _ hs1 (by omega)).mono ?_
  rintro e w2 ⟨y, rfl, hy0, hy1, -, hs2, g2⟩
  replace g2 := grown_trans g1 g2
  clear g1 hs1 hy1
  by_cases h0 : y = 0
  · subst h0
    go_wp2
    go_ret
    exact ⟨_, rfl, by rw [ByteArray.size_extract]; omega, hs2, g2⟩
  · have t0 : (y == 0) = false := by simp [h0]
    by_cases h1 : y = 1
    · subst h1
      clear t0 h0
      go_wp2_with fail
      go_region_with (first
        | (go_at_call 54; refine (next_any _ _ _ (hs2.below (by go_grown)) (by omega)).mono ?_; rintro e w3 ⟨z, rfl, hz0, hz1, -, hs3, g3⟩; obtain ⟨z, rfl⟩ := Int.eq_ofNat_of_zero_le hz0; have hz2 : z < 8 := (by omega); have htab := tab_alloc z hz2; have hta := tab_at z hz2; have htl := tab_list z hz2; have had := add_texts (P := Try.prog) t (tabText z) k (by have := tabText_size z; omega) ht; obtain ⟨had1, had2⟩ := had; try (have hct : w3.cell? ⟨w2.heap.size, z, none⟩ = some (.string (tabText z)) := tab_later g3 (heap_alloc_new w2 (.cells tabCells 9)) (by have := hs2.lt; omega) z hz2)))
      all_goals go_wp2
      all_goals go_ret
      all_goals
        refine ⟨_, rfl, ?_, hs3.below (by go_grown), grown_trans (grown_trans g2 (grown_of_below (by go_grown))) (grown_trans g3 (grown_of_below (by go_grown)))⟩
        rw [ByteArray.size_append, ByteArray.size_append, ByteArray.size_extract, ByteArray.size_extract, tabText_size]
        omega
    · have t1 : (y == 1) = false := by simp [h1]
      by_cases h2 : y = 2
      · subst h2
        by_cases hkl : k < t.size
        · go_wp2
          go_quiet (fail)
          go_wp2
          go_ret
          exact ⟨_, rfl, by rw [ByteArray.size_append, ByteArray.size_extract, ByteArray.size_extract]; omega, hs2.below (below_drewN' (Below.refl _ _) _), grown_trans g2 (grown_of_below (below_drewN' (Below.refl _ _) _))⟩
        · go_wp2
          go_ret
          exact ⟨_, rfl, by omega, hs2, g2⟩
      · have t2 : (y == 2) = false := by simp [h2]
        clear h0 h1 h2
        go_wp2
        go_ret
        exact ⟨_, rfl, by omega, hs2, g2⟩
theorem bitsText_size (xs : List Int) : (bitsText xs).size ≤ 8192 := by
  unfold bitsText
  split
  · simp
  · rename_i h
    have h := (isBits_iff.1 (by simpa using h)).1
    rw [strOfNums_size, List.length_map]; exact h
/-- What a draw of a text leaves to the law. -/
def DrawnT (w : World) (e : Ending) (w' : World) : Prop := ∃ s : ByteArray, e = .returned (.string s) ∧ s.size ≤ 1000000 ∧ Below w.heap.size w w'
theorem drawReadBits_any (ao : Option Addr) (n cap : Nat) (cs : List Int) (w : World) (hr : RdB w w.heap.size ao n cs) (hn : n ≤ 1048576) :
    Calls Try.prog 43 #[.slice ao n cap] w (DrawnT w) := by
  have HR := Lib.hid hr; clear hr
  go_enter Try.func43, Try.ntmps43
  go_wp2_with fail
  refine (from_any _ _ _ cs _ HR.out hn).mono ?_
  rintro e w1 ⟨p, rfl, hlo, hs1, hb1⟩
  have H : HeldS 2 63 w w1 p [] := HeldS.start hb1 hlo hs1
  clear hlo hs1 hb1
  go_wp2_with fail
  refine (drawBits_any _ _ _ H.src (by omega) (by omega)).mono ?_
  rintro e w2 ⟨v, xs, rfl, o2, hxl, hs2, g2⟩
  obtain ⟨a2, c2, rfl, o2, -⟩ := o2.get
  replace H := H.draw o2 hs2 g2
  clear o2 hs2 g2
  have hbs := bitsText_size xs
  obtain ⟨t, ht⟩ : ∃ t, bitsText xs = t := ⟨_, rfl⟩
  rw [ht] at hbs
  have HT := Lib.hid ht; clear ht
  go_wp2_with fail
  refine (sBitsText_any _ _ _ _ (H.rd 0 rfl rfl) (by omega)).mono ?_
  rintro e w3 ⟨rfl, b3⟩
  replace H := H.still b3
  clear b3
  rw [HT.out]
  go_wp2_with fail
  refine (next_any _ _ _ H.src (by omega)).mono ?_
  rintro e w4 ⟨y, rfl, hy0, -, -, hs4, g4⟩
  replace H := H.next hs4 g4
  clear hs4 g4
  by_cases h0 : y = 0
  · subst h0
    go_wp2_with fail
    refine (damage_any _ _ _ H.src (by omega)).mono ?_
    rintro e w5 ⟨s, rfl, hsl, hs5, g5⟩
    replace H := H.next hs5 g5
    go_wp2
    go_ret
    exact ⟨s, rfl, by omega, H.below⟩
  · have t0 : (y == 0) = false := by simp [h0]
    clear h0
    go_wp2
    go_ret
    exact ⟨t, rfl, by omega, H.below⟩

theorem nums_strOf (xs : List Int) (h : ∀ x ∈ xs, 0 ≤ x ∧ x ≤ 255) : nums (strOfNums xs) = xs := by
  unfold nums
  rw [strOfNums_data, List.map_map]
  refine (List.map_congr_left fun x hx => ?_).trans (List.map_id xs)
  have := h x hx
  obtain ⟨n, rfl⟩ := Int.eq_ofNat_of_zero_le this.1
  simp only [Function.comp, Int.toNat_natCast, id_eq]
  rw [UInt8.toNat_ofNat']
  omega
/-- A bit list is recovered from its text; a list that is none has the empty text. -/
theorem text_round (xs : List Int) : ∃ ys, readBits (nums (bitsText xs)) = (ys, true) ∧ (isBits xs = true → ys = xs) := by
  by_cases hb : isBits xs = true
  · refine ⟨xs, ?_, fun _ => rfl⟩
    have h := isBits_iff.1 hb
    rw [bt_yes hb, nums_strOf _ (by
      intro x hx
      obtain ⟨y, hy, rfl⟩ := List.mem_map.1 hx
      have := h.2 y hy
      omega)]
    rw [rb_yes (by rw [List.length_map]; omega) (by
      rw [List.all_eq_true]
      intro x hx
      obtain ⟨y, hy, rfl⟩ := List.mem_map.1 hx
      have := h.2 y hy
      have h2 : y = 0 ∨ y = 1 := by omega
      rcases h2 with rfl | rfl <;> rfl)]
    rw [List.map_map]
    congr 1
    refine (List.map_congr_left fun x _ => ?_).trans (List.map_id xs)
    simp only [Function.comp, id_eq]
    omega
  · have hb' : isBits xs = false := by simpa using hb
    exact ⟨[], by rw [bt_no hb']; rfl, fun h => absurd h hb⟩
end Go.Proofs.Ytbbankbamjnlcaa
