/-
  laws.likeInts; a number is read from where it has been appended, and appended as the bits from which it has been read; DrawNumberAt.
-/
import Derived.Test.YtbbankbamjnlcaaHeldS
namespace Go.Proofs.Ytbbankbamjnlcaa
open Go.RowKit

/-- laws.likeInts: whether two slices read as the same list. -/
theorem like_any (ao bo : Option Addr) (n m c d : Nat) (xs ys : List Int) (w : World) (hx : Rd w ao n xs) (hy : Rd w bo m ys) (hn : n ≤ 9223372036854775807) (hm : m ≤ 9223372036854775807) :
    Calls Try.prog 22 #[.slice ao n c, .slice bo m d] w fun e w' => e = .returned (.bool (decide (xs = ys))) ∧ ∃ q, w' = w.drewN q := by
  obtain ⟨hxl, hxa⟩ := hx
  obtain ⟨hyl, hya⟩ := hy
  by_cases hnm : n = m
  · subst hnm
    have XL := Lib.hid hxl; clear hxl
    have XA := Lib.hid hxa; clear hxa
    have YL := Lib.hid hyl; clear hyl
    have YA := Lib.hid hya; clear hya
    have hne : ((n : Int) != (n : Int)) = false := by simp
    go_enter Try.func22, Try.ntmps22
    go_wp2
    clear hne
    go_loopw [5] (fun i wr => ∃ k : Nat, k ≤ n ∧ i = .int .i64 k ∧ Hid (xs.take k = ys.take k) ∧ ∃ q, wr = w.drewN q) (fun i _ => n - (intOf i).toNat)
    case atStart => exact ⟨0, Nat.zero_le _, rfl, rfl, 0, rfl⟩
    case round =>
      obtain ⟨k, hk, rfl, heq, q, rfl⟩ := hrel
      by_cases hlt : k < n
      · obtain ⟨b, off, rfl, hc⟩ := XA.out (by omega)
        obtain ⟨b', off', rfl, hc'⟩ := YA.out (by omega)
        have hck : w.cell? ⟨b, off + k, none⟩ = some (.int .i64 (xs.getD k 0)) := hc k hlt
        have hck' : w.cell? ⟨b', off' + k, none⟩ = some (.int .i64 (ys.getD k 0)) := hc' k hlt
        clear hc hc' XA YA
        obtain ⟨x, hx⟩ : ∃ x, x = xs.getD k 0 := ⟨_, rfl⟩
        obtain ⟨y, hy⟩ : ∃ y, y = ys.getD k 0 := ⟨_, rfl⟩
        rw [← hx] at hck
        rw [← hy] at hck'
        have HX := Lib.hid hx; clear hx
        have HY := Lib.hid hy; clear hy
        by_cases hxy : x = y
        · have hd : (x != y) = false := by simp [hxy]
          have HXY := Lib.hid hxy; clear hxy
          go_wp2
          go_quiet (fail)
          go_wp2
          go_roundw
          case rel => exact ⟨k + 1, by omega, by go_num, take_eq_succ (by rw [XL.out]; exact hlt) (by rw [YL.out]; exact hlt) heq.out (by rw [← HX.out, ← HY.out]; exact HXY.out), _, rfl⟩
          case measure => simp [intOf]; omega
        · have hd : (x != y) = true := by simp [hxy]
          have HXY := Lib.hid hxy; clear hxy
          go_wp2
          go_quiet (fail)
          go_wp2
          go_ret
          exact ⟨ret_bool (ne_of_getD (k := k) (by rw [← HX.out, ← HY.out]; exact HXY.out)).symm, _, World.drewN_drewN _ _ _⟩
      · have hkn : k = n := by omega
        subst hkn
        go_wp2
        go_ret
        exact ⟨ret_bool (decide_eq_true (list_eq_of_take XL.out YL.out heq.out)).symm, _, rfl⟩
  · have hne : ((n : Int) != (m : Int)) = true := by simp; omega
    have hf : decide (xs = ys) = false := ne_of_len (by rw [hxl, hyl]; exact hnm)
    rw [hf]
    clear hxl hyl hxa hya hf hnm
    go_enter Try.func22, Try.ntmps22
    go_wp2
    go_ret
    exact ⟨rfl, 0, rfl⟩
/-- laws.likeInts of two equal lists. -/
theorem like_yes (ao bo : Option Addr) (n m c d : Nat) (xs : List Int) (w : World) (hx : Rd w ao n xs) (hy : Rd w bo m xs) (hn : n ≤ 9223372036854775807) :
    Calls Try.prog 22 #[.slice ao n c, .slice bo m d] w fun e w' => e = .returned (.bool true) ∧ Below w.heap.size w w' := by
  have hm : m ≤ 9223372036854775807 := by have := hx.len; have := hy.len; omega
  refine (like_any ao bo n m c d xs xs w hx hy hn hm).mono ?_
  rintro e w' ⟨he, q, rfl⟩
  exact ⟨by rw [he]; simp, below_drewN' (Below.refl _ _) q⟩


theorem pow_pos' (k : Nat) : (0 : Int) < 2 ^ k := Int.pow_pos (by omega)
theorem numOf_top (v : Int) (w j : Nat) (h0 : 0 ≤ v) (h1 : v < 2 ^ w) (hj : j ≤ w) : numOf (topBits v w j) = v / 2 ^ (w - j) := by
  induction j with
  | zero => rw [Nat.sub_zero, Int.ediv_eq_zero_of_lt h0 h1]; rfl
  | succ j ih =>
    rw [topBits_succ, numOf_snoc, ih (by omega)]
    unfold bitAt
    rw [show w - j = (w - 1 - j) + 1 from by omega, Int.pow_succ, ← Int.ediv_ediv_of_nonneg (by have := pow_pos' (w - 1 - j); omega), show w - (j + 1) = w - 1 - j from by omega]
    omega
theorem numOf_bitsOf (v : Int) (w : Nat) (h0 : 0 ≤ v) (h1 : v < 2 ^ w) : numOf (bitsOf v w) = v := by
  unfold bitsOf
  rw [numOf_top v w w h0 h1 (Nat.le_refl _), Nat.sub_self]; simp
theorem bitsOf_bits (v : Int) (w : Nat) : ∀ x ∈ bitsOf v w, 0 ≤ x ∧ x ≤ 1 := by
  intro x hx
  unfold bitsOf topBits at hx
  obtain ⟨i, _, rfl⟩ := List.mem_map.1 hx
  unfold bitAt
  omega
theorem bitsOf_snoc (m b : Int) (n : Nat) (hb0 : 0 ≤ b) (hb1 : b ≤ 1) : bitsOf (2 * m + b) (n + 1) = bitsOf m n ++ [b] := by
  unfold bitsOf
  rw [topBits_succ]
  have h1 : topBits (2 * m + b) (n + 1) n = topBits m n n := by
    unfold topBits
    refine List.map_congr_left fun i hi => ?_
    have hi := List.mem_range.1 hi
    unfold bitAt
    rw [show n + 1 - 1 - i = (n - 1 - i) + 1 from by omega, Int.pow_succ, Int.mul_comm (2 ^ (n - 1 - i)) 2, ← Int.ediv_ediv_of_nonneg (by omega), show (2 * m + b) / 2 = m from by omega]
  rw [h1]
  congr 1
  unfold bitAt
  rw [show n + 1 - 1 - n = 0 from by omega]
  simp; omega
theorem bitsOf_numOf (n : Nat) : ∀ ys : List Int, ys.length = n → (∀ x ∈ ys, 0 ≤ x ∧ x ≤ 1) → bitsOf (numOf ys) n = ys := by
  induction n with
  | zero => intro ys h _; have := List.length_eq_zero_iff.1 h; subst this; rfl
  | succ n ih =>
    intro ys h hb
    have hne : ys ≠ [] := fun e => by subst e; simp at h
    have e := List.dropLast_concat_getLast hne
    have hl : ys.dropLast.length = n := by rw [List.length_dropLast, h]; omega
    have hb1 := hb _ (List.getLast_mem hne)
    rw [← e, numOf_snoc, bitsOf_snoc _ _ _ hb1.1 hb1.2, ih _ hl fun x hx => hb x (by rw [← e]; exact List.mem_append_left _ hx)]
/-- A number is read from where it has been appended. -/
theorem number_round {xs out : List Int} {v width : Int} (h : appendNumber xs v width = (out, 0)) : out.length ≤ 8192 ∧ xs.length ≤ out.length ∧ out.take xs.length = xs ∧ numberAt out xs.length width = (v, 0) := by
  have hlen := appendNumber_len xs v width
  rw [h] at hlen
  unfold appendNumber at h
  split at h
  · cases h
  · split at h
    · cases h
    · split at h
      · cases h
      · rename_i h1 h2 h3
        have h1 := isBits_iff.1 (by simpa using h1)
        simp only [not_or, Decidable.not_not] at h2
        obtain ⟨⟨hw0, hw1⟩, hv0, hv1⟩ := h2
        simp only [Prod.mk.injEq, and_true] at h
        subst h
        obtain ⟨wd, rfl⟩ := Int.eq_ofNat_of_zero_le hw0
        rw [Int.toNat_natCast] at *
        have hol : (xs ++ bitsOf v wd).length = xs.length + wd := by rw [List.length_append, bitsOf_len]
        have hbits : isBits (xs ++ bitsOf v wd) = true := isBits_iff.2 ⟨by omega, fun x hx => by
          rcases List.mem_append.1 hx with hx | hx
          · exact h1.2 x hx
          · exact bitsOf_bits v wd x hx⟩
        refine ⟨hlen, by omega, by simp, ?_⟩
        rw [na_0 hbits ⟨hw0, hw1⟩ ⟨by omega, by rw [hol]; omega⟩]
        simp only [Int.toNat_natCast, List.drop_left]
        rw [List.take_of_length_le (by rw [bitsOf_len]; exact Nat.le_refl _), numOf_bitsOf v wd hv0 hv1]
/-- A number that is read is appended as the same bits. -/
theorem number_back {xs : List Int} {at_ width x : Int} (h : numberAt xs at_ width = (x, 0)) :
    ∃ a wd : Nat, at_ = a ∧ width = wd ∧ a + wd ≤ xs.length ∧ xs.length ≤ 8192 ∧ wd ≤ 40 ∧ appendNumber (xs.take a) x width = (xs.take (a + wd), 0) := by
  unfold numberAt at h
  split at h
  · cases h
  · split at h
    · cases h
    · rename_i h1 h2
      have h1 := isBits_iff.1 (by simpa using h1)
      simp only [not_or, Decidable.not_not] at h2
      obtain ⟨⟨hw0, hw1⟩, hv0, hv1⟩ := h2
      obtain ⟨wd, rfl⟩ := Int.eq_ofNat_of_zero_le hw0
      obtain ⟨a, rfl⟩ := Int.eq_ofNat_of_zero_le hv0
      simp only [Int.toNat_natCast, Prod.mk.injEq, and_true] at h
      subst h
      have hl : ((xs.drop a).take wd).length = wd := by rw [List.length_take, List.length_drop]; omega
      have hb : ∀ x ∈ (xs.drop a).take wd, 0 ≤ x ∧ x ≤ 1 := fun x hx => h1.2 x (List.mem_of_mem_drop (List.mem_of_mem_take hx))
      have hbd := numOf_bound _ hb
      rw [hl] at hbd
      have htl : (xs.take a).length = a := by rw [List.length_take]; omega
      refine ⟨a, wd, rfl, rfl, by omega, h1.1, by omega, ?_⟩
      rw [an_0 (isBits_iff.2 ⟨by omega, fun x hx => h1.2 x (List.mem_of_mem_take hx)⟩) ⟨hw0, hw1⟩ (by simpa using hbd) (by rw [htl]; omega), Int.toNat_natCast, bitsOf_numOf wd _ hl hb, List.take_add]

theorem Rd.front {w : World} {ao : Option Addr} {n : Nat} {xs : List Int} (h : Rd w ao n xs) {k : Nat} (hk : k ≤ n) : Rd w ao k (xs.take k) := by
  have hl := h.len
  refine ⟨by rw [List.length_take]; omega, fun h0 => ?_⟩
  obtain ⟨b, off, rfl, hc⟩ := h.here (by omega)
  exact ⟨b, off, rfl, fun i hi => by rw [hc i (by omega)]; simp [List.getD, hi]⟩
theorem appendNumber_at (ao : Option Addr) (n cap : Nat) (xs : List Int) (val width : Int) (w : World) (hr : Rd w ao n xs) (hn : n ≤ 1048576) :
    Calls Try.prog 20 #[.slice ao n cap, .int .i64 val, .int .i64 width] w (Makes2 2 w (appendNumber xs val width).1 (appendNumber xs val width).2) := by
  obtain rfl := hr.len
  exact appendNumber_any ao cap xs val width w hr hn

set_option maxHeartbeats 1000000 in
theorem drawNumberAt_any (ao : Option Addr) (n cap : Nat) (cs : List Int) (w : World) (hr : RdB w w.heap.size ao n cs) (hn : n ≤ 1048576) :
    Calls Try.prog 24 #[.slice ao n cap] w (DrawnA 2 w) := by
  have HR := Lib.hid hr; clear hr
  go_enter Try.func24, Try.ntmps24
  go_wp2_with fail
  refine (from_any _ _ _ cs _ HR.out hn).mono ?_
  rintro e w1 ⟨p, rfl, hlo, hs1, hb1⟩
  have H : HeldS 2 63 w w1 p [] := HeldS.start hb1 hlo hs1
  clear hlo hs1 hb1
  go_wp2_with fail
  refine (drawBits_any _ _ _ H.src (by omega) (by omega)).mono ?_
  rintro e w2 ⟨v, xs, rfl, o2, hxl, hs2, g2⟩
  obtain ⟨a2, c2, rfl, o2, -⟩ := o2.get
  replace H := H.draw o2 hs2 g2
  clear o2 hs2 g2
  go_wp2_with fail
  refine (next_any _ _ _ H.src (by omega)).mono ?_
  rintro e w3 ⟨wd, rfl, hw0, hw1, -, hs3, g3⟩
  replace H := H.next hs3 g3
  have hw2 : wd < 9 := hw1 (by omega)
  clear hs3 g3 hw1
  go_wp2_with fail
  all_goals
    refine (next_any _ _ _ H.src (by omega)).mono ?_
    rintro e w4 ⟨val, rfl, -, -, -, hs4, g4⟩
    replace H := H.next hs4 g4
    clear hs4 g4
    go_wp2_with fail
    refine (next_any _ _ _ H.src (by omega)).mono ?_
    rintro e w5 ⟨y, rfl, hy0, hy1, -, hs5, g5⟩
    replace H := H.next hs5 g5
    clear hs5 g5 hy1
    by_cases h0 : y = 0
    · subst h0
      have HT := fun o => (H.still ((Below.refl _ _).alloc (Nat.le_refl _) o))
      go_wp2_with fail
      refine (next_any _ _ _ (HT _).src (by omega)).mono ?_
      rintro e w6 ⟨z, rfl, hz0, hz1, -, hs6, g6⟩
      have hct := table_cell g6 H.src.lt
      replace H := (HT _).next hs6 g6
      clear HT hs6 g6
      obtain ⟨z, rfl⟩ := Int.eq_ofNat_of_zero_le hz0
      have hz2 : z < 3 := by omega
      have hc := hct z
      clear hct hz0 hz1
      match z, hz2 with
      | 0, _ | 1, _ | 2, _ =>
        simp at hc
        go_wp2
        go_ret3
        exact ⟨_, xs, _, _, rfl, H.get 0 rfl, hxl, H.below⟩
    · have t0 : (y == 0) = false := by simp [h0]
      by_cases h1 : y = 1
      · subst h1
        clear h0 t0
        go_wp2
        go_ret3
        exact ⟨_, xs, _, _, rfl, H.get 0 rfl, hxl, H.below⟩
      · have t1 : (y == 1) = false := by simp [h1]
        clear h0 h1
        go_wp2
        go_ret3
        exact ⟨_, xs, _, _, rfl, H.get 0 rfl, hxl, H.below⟩
end Go.Proofs.Ytbbankbamjnlcaa
