/-
  DrawBytesToBits, DrawBitsToBytes, DrawFlipBits, DrawDifferingBits, DrawBitsText; bytes are recovered from their bits; flipping the differing bits turns one list into the other.
-/
import Derived.Test.YtbbankbamjnlcaaLike
import Derived.Test.YtbbankbamjnlcaaC1d
import Derived.Test.YtbbankbamjnlcaaC1g
namespace Go.Proofs.Ytbbankbamjnlcaa
open Go.RowKit

/-- The code reads on while the call makes memory of its own. -/
theorem rdB_later {w w' : World} {n : Nat} {ao : Option Addr} {cs : List Int} (h : RdB w w.heap.size ao n cs) (b : Below w.heap.size w w') : RdB w' w'.heap.size ao n cs := by
  have h1 := h.keep (w' := w') fun b' o hb => b.cell (p := ⟨b', o, none⟩) hb
  exact ⟨h1.len, fun hn => by
    obtain ⟨b', off, e, hb, hc⟩ := h1.here hn
    exact ⟨b', off, e, Nat.lt_of_lt_of_le hb b.size, hc⟩, h1.bound⟩
theorem drawBytesToBits_any (ao : Option Addr) (n cap : Nat) (cs : List Int) (w : World) (hr : RdB w w.heap.size ao n cs) (hn : n ≤ 1048576) :
    Calls Try.prog 26 #[.slice ao n cap] w (Drawn1 2 w) := by
  have HR := Lib.hid hr; clear hr
  go_enter Try.func26, Try.ntmps26
  go_wp2_with fail
  refine (from_any _ _ _ cs _ HR.out hn).mono ?_
  rintro e w1 ⟨p, rfl, hlo, hs1, hb1⟩
  have H : HeldS 2 63 w w1 p [] := HeldS.start hb1 hlo hs1
  clear hlo hs1 hb1
  go_wp2_with fail
  refine (drawBytes_any _ _ _ H.src (by omega) (by omega)).mono ?_
  rintro e w2 ⟨v, xs, rfl, o2, hxl, hs2, g2⟩
  replace H := H.draw o2 hs2 g2
  go_wp2
  go_ret
  exact ⟨_, xs, rfl, H.get 0 rfl, hxl, H.below⟩
theorem drawBitsText_any (ao : Option Addr) (n cap : Nat) (cs : List Int) (w : World) (hr : RdB w w.heap.size ao n cs) (hn : n ≤ 1048576) :
    Calls Try.prog 40 #[.slice ao n cap] w (Drawn1 2 w) := by
  have HR := Lib.hid hr; clear hr
  go_enter Try.func40, Try.ntmps40
  go_wp2_with fail
  refine (from_any _ _ _ cs _ HR.out hn).mono ?_
  rintro e w1 ⟨p, rfl, hlo, hs1, hb1⟩
  have H : HeldS 2 63 w w1 p [] := HeldS.start hb1 hlo hs1
  clear hlo hs1 hb1
  go_wp2_with fail
  refine (drawBits_any _ _ _ H.src (by omega) (by omega)).mono ?_
  rintro e w2 ⟨v, xs, rfl, o2, hxl, hs2, g2⟩
  replace H := H.draw o2 hs2 g2
  go_wp2
  go_ret
  exact ⟨_, xs, rfl, H.get 0 rfl, hxl, H.below⟩
theorem drawBitsToBytes_any (ao : Option Addr) (n cap : Nat) (cs : List Int) (w : World) (hr : RdB w w.heap.size ao n cs) (hn : n ≤ 1048576) :
    Calls Try.prog 29 #[.slice ao n cap] w (Drawn1 2 w) := by
  have HR := Lib.hid hr; clear hr
  go_enter Try.func29, Try.ntmps29
  go_wp2_with fail
  refine (from_any _ _ _ cs _ HR.out hn).mono ?_
  rintro e w1 ⟨p, rfl, hlo, hs1, hb1⟩
  have H : HeldS 2 63 w w1 p [] := HeldS.start hb1 hlo hs1
  clear hlo hs1 hb1
  go_wp2_with fail
  refine (next_any _ _ _ H.src (by omega)).mono ?_
  rintro e w2 ⟨y, rfl, hy0, -, -, hs2, g2⟩
  replace H := H.next hs2 g2
  clear hs2 g2
  by_cases h0 : y = 0
  · subst h0
    go_wp2_with fail
    refine (drawBits_any _ _ _ H.src (by omega) (by omega)).mono ?_
    rintro e w3 ⟨v, xs, rfl, o3, hxl, hs3, g3⟩
    replace H := H.draw o3 hs3 g3
    go_wp2
    go_ret
    exact ⟨_, xs, rfl, H.get 0 rfl, hxl, H.below⟩
  · have t0 : (y == 0) = false := by simp [h0]
    clear h0
    go_wp2_with fail
    refine (drawBytes_any _ _ _ H.src (by omega) (by omega)).mono ?_
    rintro e w3 ⟨v, xs, rfl, o3, hxl, hs3, g3⟩
    obtain ⟨a3, c3, rfl, o3, -⟩ := o3.get
    replace H := H.draw o3 hs3 g3
    clear o3 hs3 g3
    obtain ⟨r0, r1, hF⟩ : ∃ r0 r1, bytesToBits xs = (r0, r1) := ⟨_, _, rfl⟩
    have HF := Lib.hid hF; clear hF
    have hrl : r0.length ≤ 8192 := by have h := bytesToBits_len xs; rw [HF.out] at h; exact h
    go_wp2_with fail
    refine (sBytesToBits_any _ _ _ _ (H.rd 0 rfl rfl) (by omega)).mono ?_
    rintro e w4 m4
    rw [HF.out] at m4
    change Makes2 2 _ r0 r1 _ _ at m4
    obtain ⟨p4, c4, rfl, o4, -, b4⟩ := m4.get
    replace H := H.make o4 b4
    go_wp2
    go_ret
    exact ⟨_, r0, rfl, H.get 0 rfl, by omega, H.below⟩

/-- What a draw of two slices leaves. -/
def Drawn2 (E : Nat) (w : World) (e : Ending) (w' : World) : Prop :=
  ∃ v xs v' ys, e = .returned (.tuple #[v, v']) ∧ Own E w' w.heap.size v xs ∧ Own E w' w.heap.size v' ys ∧ xs.length ≤ 9000 ∧ ys.length ≤ 9000 ∧ Below w.heap.size w w'
theorem drawFlipBits_any (ao : Option Addr) (n cap : Nat) (cs : List Int) (w : World) (hr : RdB w w.heap.size ao n cs) (hn : n ≤ 1048576) :
    Calls Try.prog 37 #[.slice ao n cap] w (Drawn2 2 w) := by
  have HR := Lib.hid hr; clear hr
  go_enter Try.func37, Try.ntmps37
  go_wp2_with fail
  refine (from_any _ _ _ cs _ HR.out hn).mono ?_
  rintro e w1 ⟨p, rfl, hlo, hs1, hb1⟩
  have H : HeldS 2 63 w w1 p [] := HeldS.start hb1 hlo hs1
  clear hlo hs1 hb1
  go_wp2_with fail
  refine (drawBits_any _ _ _ H.src (by omega) (by omega)).mono ?_
  rintro e w2 ⟨v, xs, rfl, o2, hxl, hs2, g2⟩
  obtain ⟨a2, c2, rfl, o2, -⟩ := o2.get
  replace H := H.draw o2 hs2 g2
  clear o2 hs2 g2
  go_wp2_with fail
  refine (drawIndices_any _ _ _ _ H.src (by omega) (by omega) (by omega) (by omega)).mono ?_
  rintro e w3 ⟨v3, ys, rfl, o3, hyl, hs3, g3⟩
  replace H := H.draw o3 hs3 g3
  clear o3 hs3 g3
  go_wp2
  go_ret2
  exact ⟨_, xs, _, ys, rfl, H.get 1 rfl, H.get 0 rfl, hxl, hyl, H.below⟩
theorem drawDifferingBits_any (ao : Option Addr) (n cap : Nat) (cs : List Int) (w : World) (hr : RdB w w.heap.size ao n cs) (hn : n ≤ 1048576) :
    Calls Try.prog 34 #[.slice ao n cap] w (Drawn2 2 w) := by
  have HR := Lib.hid hr; clear hr
  go_enter Try.func34, Try.ntmps34
  go_wp2_with fail
  refine (from_any _ _ _ cs _ HR.out hn).mono ?_
  rintro e w1 ⟨p, rfl, hlo, hs1, hb1⟩
  have H : HeldS 2 63 w w1 p [] := HeldS.start hb1 hlo hs1
  clear hlo hs1 hb1
  go_wp2_with fail
  refine (drawBits_any _ _ _ H.src (by omega) (by omega)).mono ?_
  rintro e w2 ⟨v, xs, rfl, o2, hxl, hs2, g2⟩
  obtain ⟨a2, c2, rfl, o2, -⟩ := o2.get
  replace H := H.draw o2 hs2 g2
  clear o2 hs2 g2
  go_wp2_with fail
  refine (next_any _ _ _ H.src (by omega)).mono ?_
  rintro e w3 ⟨y, rfl, hy0, -, -, hs3, g3⟩
  replace H := H.next hs3 g3
  clear hs3 g3
  by_cases h0 : y = 0
  · subst h0
    go_wp2_with fail
    refine (drawBits_any _ _ _ H.src (by omega) (by omega)).mono ?_
    rintro e w4 ⟨v4, ys, rfl, o4, hyl, hs4, g4⟩
    replace H := H.draw o4 hs4 g4
    clear o4 hs4 g4
    go_wp2
    go_ret2
    exact ⟨_, xs, _, ys, rfl, H.get 1 rfl, H.get 0 rfl, hxl, hyl, H.below⟩
  · have t0 : (y == 0) = false := by simp [h0]
    clear h0
    go_wp2_with fail
    refine (drawIndices_any _ _ _ _ H.src (by omega) (by omega) (by omega) (by omega)).mono ?_
    rintro e w4 ⟨v4, ys, rfl, o4, hyl, hs4, g4⟩
    obtain ⟨a4, c4, rfl, o4, -⟩ := o4.get
    replace H := H.draw o4 hs4 g4
    clear o4 hs4 g4
    obtain ⟨r0, r1, hF⟩ : ∃ r0 r1, flipBits xs ys = (r0, r1) := ⟨_, _, rfl⟩
    have HF := Lib.hid hF; clear hF
    have hrl : r0.length ≤ 8192 := by have h := flipBits_len xs ys; rw [HF.out] at h; exact h
    go_wp2_with fail
    refine (sFlipBits_any _ _ _ _ _ _ _ (H.rd 1 rfl rfl) (H.rd 0 rfl rfl) (by omega) (by omega)).mono ?_
    rintro e w5 m5
    rw [HF.out] at m5
    change Makes2 2 _ r0 r1 _ _ at m5
    obtain ⟨p5, c5, rfl, o5, -, b5⟩ := m5.get
    replace H := H.make o5 b5
    clear o5 b5 m5
    by_cases h1 : r1 = 0
    · subst h1
      go_wp2
      go_ret2
      exact ⟨_, xs, _, r0, rfl, H.get 2 rfl, H.get 0 rfl, hxl, by omega, H.below⟩
    · have t1 : (r1 != 0) = true := by simp [h1]
      clear h1
      go_wp2
      go_ret2
      exact ⟨_, xs, _, xs, rfl, H.get 2 rfl, H.get 2 rfl, hxl, hxl, H.below⟩

theorem flat_drop (xs : List Int) (i : Nat) (h : i < xs.length) : ((xs.flatMap (bitsOf · 8)).drop (8 * i)).take 8 = bitsOf (xs.getD i 0) 8 := by
  induction xs generalizing i with
  | nil => simp at h
  | cons x xs ih =>
    rw [List.flatMap_cons]
    cases i with
    | zero => simp only [Nat.mul_zero, List.drop_zero, List.getD_cons_zero]; rw [List.take_append_of_le_length (by rw [bitsOf_len]; exact Nat.le_refl _), List.take_of_length_le (by rw [bitsOf_len]; exact Nat.le_refl _)]
    | succ i =>
      rw [show 8 * (i + 1) = (bitsOf x 8).length + 8 * i from by rw [bitsOf_len]; omega, List.drop_append, List.drop_of_length_le (by omega), List.nil_append, Nat.add_sub_cancel_left, List.getD_cons_succ]
      exact ih i (by simpa using h)
theorem bytes_round {xs out : List Int} (h : bytesToBits xs = (out, 0)) : out.length = 8 * xs.length ∧ bitsToBytes out = (xs, 0) := by
  unfold bytesToBits at h
  split at h
  · cases h
  · rename_i h1
    have h1 := isBytes_iff.1 (by simpa using h1)
    simp only [Prod.mk.injEq, and_true] at h
    subst h
    have hl := flat_len xs
    refine ⟨hl, ?_⟩
    rw [bi_0 (isBits_iff.2 ⟨by omega, fun x hx => ?_⟩) (by omega)]
    · rw [hl, show 8 * xs.length / 8 = xs.length from by omega]
      congr 1
      apply List.ext_getElem (by rw [bytesTo_len])
      intro i h2 h3
      have e : (bytesTo (xs.flatMap (bitsOf · 8)) xs.length).getD i 0 = xs.getD i 0 := by
        rw [bytesTo_getD _ _ _ h3, flat_drop xs i h3]
        have := h1.2 _ (getD_mem' h3)
        exact numOf_bitsOf _ 8 this.1 (by omega)
      rw [List.getD, List.getElem?_eq_getElem h2, List.getD, List.getElem?_eq_getElem h3] at e
      exact e
    · obtain ⟨y, _, hy⟩ := List.mem_flatMap.1 hx
      exact bitsOf_bits y 8 x hy
theorem stepOk_mono {n m : Int} {ids : List Int} {i : Nat} (h : stepOk n ids i) (hnm : n ≤ m) : stepOk m ids i := ⟨h.1, by have := h.2; omega⟩
theorem getD_append_left (ids : List Int) (x : Int) (i : Nat) (h : i < ids.length) : (ids ++ [x]).getD i 0 = ids.getD i 0 := by simp [List.getD, List.getElem?_append, h]
theorem getD_append_last (ids : List Int) (x : Int) : (ids ++ [x]).getD ids.length 0 = x := by simp [List.getD]
theorem prev_append (ids : List Int) (x : Int) (i : Nat) (h : i ≤ ids.length) : prev (ids ++ [x]) i = prev ids i := by
  unfold prev
  split
  · rfl
  · exact getD_append_left ids x _ (by omega)
theorem diffTo_ok (xs ys : List Int) (k : Nat) : ∀ i, i < (diffTo xs ys k).length → stepOk k (diffTo xs ys k) i := by
  induction k with
  | zero => intro i hi; simp [diffTo] at hi
  | succ k ih =>
    intro i hi
    by_cases h : (xs.getD k 0 != ys.getD k 0) = true
    · rw [diffTo_ne h] at hi ⊢
      rw [List.length_append, List.length_singleton] at hi
      rcases Nat.lt_succ_iff_lt_or_eq.1 hi with h1 | rfl
      · have h2 := ih i h1
        exact ⟨by rw [prev_append _ _ _ (by omega), getD_append_left _ _ _ h1]; exact h2.1, by rw [getD_append_left _ _ _ h1]; have := h2.2; omega⟩
      · refine ⟨?_, by rw [getD_append_last]; omega⟩
        rw [prev_append _ _ _ (Nat.le_refl _), getD_append_last]
        rcases hl : (diffTo xs ys k).length with _ | l
        · rw [prev_zero]; omega
        · rw [prev_succ]
          have := (ih l (by omega)).2
          omega
    · have h' : (xs.getD k 0 != ys.getD k 0) = false := by simpa using h
      rw [diffTo_eq h'] at hi ⊢
      exact stepOk_mono (ih i hi) (by omega)
theorem flips_diff (xs ys : List Int) (hl : xs.length = ys.length) (hx : ∀ x ∈ xs, 0 ≤ x ∧ x ≤ 1) (hy : ∀ y ∈ ys, 0 ≤ y ∧ y ≤ 1) (k : Nat) (hk : k ≤ xs.length) : flips xs (diffTo xs ys k) = ys.take k ++ xs.drop k := by
  induction k with
  | zero => simp [diffTo, flips]
  | succ k ih =>
    have hkx : k < xs.length := by omega
    have hky : k < ys.length := by omega
    have htl : (ys.take k).length = k := by rw [List.length_take]; omega
    have hd : xs.drop k = xs.getD k 0 :: xs.drop (k + 1) := by
      rw [List.drop_eq_getElem_cons hkx, List.getD, List.getElem?_eq_getElem hkx]; rfl
    by_cases h : (xs.getD k 0 != ys.getD k 0) = true
    · rw [diffTo_ne h, flips_snoc, ih (by omega), Int.toNat_natCast, hd]
      have hg : (ys.take k ++ xs.getD k 0 :: xs.drop (k + 1)).getD k 0 = xs.getD k 0 := by
        rw [List.getD, List.getElem?_append_right (by omega), htl, Nat.sub_self]; rfl
      have h1 := hx _ (getD_mem' hkx)
      have h2 := hy _ (getD_mem' hky)
      have hne : xs.getD k 0 ≠ ys.getD k 0 := by simpa using h
      rw [hg, show 1 - xs.getD k 0 = ys.getD k 0 from by omega, List.set_append_right _ _ (by omega), htl, Nat.sub_self, List.set_cons_zero, take_succ' ys k hky]
      simp
    · have h' : (xs.getD k 0 != ys.getD k 0) = false := by simpa using h
      have he : xs.getD k 0 = ys.getD k 0 := by simpa using h'
      rw [diffTo_eq h', ih (by omega), hd, take_succ' ys k hky, he]
      simp
/-- Flipping the differing bits of two lists turns one into the other. -/
theorem flips_round {xs ys d : List Int} (h : differingBits xs ys = (d, 0)) : flipBits xs d = (ys, 0) := by
  unfold differingBits at h
  split at h
  · cases h
  · split at h
    · cases h
    · rename_i h1 h2
      obtain ⟨ha, hb⟩ := not_or.1 h1
      have ha : isBits xs = true := by simpa using ha
      have hb : isBits ys = true := by simpa using hb
      have hl : xs.length = ys.length := by simpa using h2
      simp only [Prod.mk.injEq, and_true] at h
      subst h
      rw [fb_0 ha (rises_iff.2 fun i hi => diffTo_ok xs ys _ i hi), flips_diff xs ys hl (isBits_iff.1 ha).2 (isBits_iff.1 hb).2 _ (Nat.le_refl _)]
      rw [List.drop_length, List.append_nil, hl, List.take_length]
end Go.Proofs.Ytbbankbamjnlcaa
