/-
  Chapter 14: the draws of the law of texts.
-/
import Derived.Test.YtljdkckoelgkbaaImS
import Derived.Test.YtljdkckoelgkbaaImT
import Derived.Test.YtljdkckoelgkbaaDrawB
namespace Go.Proofs.Ytljdkckoelgkbaa
open Go.RowKit

theorem nums_inj14 {a b : ByteArray} (h : nums a = nums b) : a = b := by
  apply ByteArray.ext
  apply Array.ext'
  unfold nums at h
  exact (List.map_inj_right fun x y hxy => UInt8.toNat_inj.1 (by exact_mod_cast hxy)).1 h
theorem nums_str14 (xs : List Int) (h : ∀ x ∈ xs, 0 ≤ x ∧ x ≤ 255) : nums (strOfNums xs) = xs := by
  unfold nums
  rw [strOfNums_data, List.map_map]
  refine (List.map_congr_left fun x hx => ?_).trans (List.map_id xs)
  have := h x hx
  obtain ⟨n, rfl⟩ := Int.eq_ofNat_of_zero_le this.1
  simp only [Function.comp, Int.toNat_natCast, id_eq]
  rw [UInt8.toNat_ofNat']
  omega
theorem nums_byte14 (s : ByteArray) : ∀ x ∈ nums s, 0 ≤ x ∧ x ≤ 255 := by
  intro x hx
  unfold nums at hx
  obtain ⟨c, -, rfl⟩ := List.mem_map.1 hx
  have := c.toNat_lt
  omega
theorem str_nums14 (s : ByteArray) : strOfNums (nums s) = s := nums_inj14 (nums_str14 _ (nums_byte14 s))
theorem hexText_size (xs : List Int) : (strOfNums (imageText xs)).size ≤ 2048 := by
  rw [strOfNums_size]
  unfold imageText
  split
  · rename_i h
    have := (isBytes_iff.1 h).1
    rw [hexes_len]; omega
  · simp
theorem imageText_byte (xs : List Int) : ∀ c ∈ imageText xs, 0 ≤ c ∧ c ≤ 255 := by
  unfold imageText
  split
  · rename_i h
    exact fun c hc => (hexes_in (isBytes_iff.1 h).2 c hc).1
  · intro c hc; cases hc
/-- A text is read again; a list that is none has the empty text. -/
theorem hex_round (xs : List Int) : ∃ ys, readImageText (nums (strOfNums (imageText xs))) = (ys, true) ∧ (isBytes xs = true → ys = xs) := by
  rw [nums_str14 _ (imageText_byte xs)]
  rcases hb : isBytes xs with _ | _
  · exact ⟨[], by rw [show imageText xs = [] from by unfold imageText; rw [if_neg (by rw [hb]; simp)]]; rfl, fun h => by cases h⟩
  · exact ⟨xs, itext_round hb, fun _ => rfl⟩
/-- What is read from a text has it. -/
theorem hex_again {u : ByteArray} {y : List Int} (h : readImageText (nums u) = (y, true)) : strOfNums (imageText y) = u := by
  rw [(text_again h).2, str_nums14]
theorem drawReadImageText_any (ao : Option Addr) (n cap : Nat) (cs : List Int) (w : World) (hr : RdB w w.heap.size ao n cs) (hn : n ≤ 1048576) :
    Calls Try.prog 11 #[.slice ao n cap] w (DrawnT w) := by
  have HR := Lib.hid hr; clear hr
  go_enter Try.func11, Try.ntmps11
  go_wp2_with fail
  refine (from_any _ _ _ cs _ HR.out hn).mono ?_
  rintro e w1 ⟨p, rfl, hlo, hs1, hb1⟩
  have H : HeldS 2 53 w w1 p [] := HeldS.start hb1 hlo hs1
  clear hlo hs1 hb1
  go_wp2_with fail
  refine (drawBytes_any _ _ _ H.src (by omega) (by omega)).mono ?_
  rintro e w2 ⟨v, xs, rfl, o2, hxl, hs2, g2⟩
  obtain ⟨a2, c2, rfl, o2, -⟩ := o2.get
  replace H := H.draw o2 hs2 g2
  clear o2 hs2 g2
  have hbs := hexText_size xs
  obtain ⟨t, ht⟩ : ∃ t, strOfNums (imageText xs) = t := ⟨_, rfl⟩
  rw [ht] at hbs
  have HT := Lib.hid ht; clear ht
  go_wp2_with fail
  refine (sImageText_any _ _ _ _ (H.rd 0 rfl rfl) (by omega)).mono ?_
  rintro e w3 ⟨rfl, b3⟩
  replace H := H.still b3
  clear b3
  rw [HT.out]
  go_wp2_with fail
  refine (next_any _ _ _ H.src (by omega)).mono ?_
  rintro e w4 ⟨y, rfl, hy0, -, -, hs4, g4⟩
  replace H := H.next hs4 g4
  clear hs4 g4
  by_cases h0 : y = 0
  · subst h0
    go_wp2_with fail
    refine (damage_any _ _ _ H.src (by omega)).mono ?_
    rintro e w5 ⟨s, rfl, hsl, hs5, g5⟩
    replace H := H.next hs5 g5
    go_wp2
    go_ret
    exact ⟨s, rfl, by omega, H.below⟩
  · have t0 : (y == 0) = false := by simp [h0]
    clear h0
    go_wp2
    go_ret
    exact ⟨t, rfl, by omega, H.below⟩

theorem drawImageText_any (ao : Option Addr) (n cap : Nat) (cs : List Int) (w : World) (hr : RdB w w.heap.size ao n cs) (hn : n ≤ 1048576) :
    Calls Try.prog 8 #[.slice ao n cap] w (Drawn1 2 w) := by
  have HR := Lib.hid hr; clear hr
  go_enter Try.func8, Try.ntmps8
  go_wp2_with fail
  refine (from_any _ _ _ cs _ HR.out hn).mono ?_
  rintro e w1 ⟨p, rfl, hlo, hs1, hb1⟩
  have H : HeldS 2 53 w w1 p [] := HeldS.start hb1 hlo hs1
  clear hlo hs1 hb1
  go_wp2_with fail
  refine (drawBytes_any _ _ _ H.src (by omega) (by omega)).mono ?_
  rintro e w2 ⟨v, xs, rfl, o2, hxl, hs2, g2⟩
  replace H := H.draw o2 hs2 g2
  go_wp2
  go_ret
  exact ⟨_, xs, rfl, H.get 0 rfl, hxl, H.below⟩
end Go.Proofs.Ytljdkckoelgkbaa
