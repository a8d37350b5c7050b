/-
  Chapter 3: weights, the first one, missed errors on both sides.
-/
import Derived.Test.YtfmbefmiglpijaaDist3
import Derived.Test.YtfmbefmiglpijaaTwoB
namespace Go.Proofs.Ytfmbefmiglpijaa
open Go.RowKit

/-- spec.l03Weight. -/
theorem sWeight_any (ao : Option Addr) (n cap : Nat) (xs : List Int) (w : World) (hr : Rd w ao n xs) (hn : n ≤ 1048576) (hbits : ∀ x ∈ xs, 0 ≤ x ∧ x ≤ 1) :
    Calls Try.prog 51 #[.slice ao n cap] w fun e w' => e = .returned (.int .i64 (weight xs)) ∧ w = w' := by
  obtain ⟨hlen, hat⟩ := hr
  have HL := Lib.hid hlen; clear hlen
  have HA := Lib.hid hat; clear hat
  have HZ := Lib.hid hbits; clear hbits
  go_enter Try.func51, Try.ntmps51
  go_wp2
  go_loop [3, 4] (fun v i => ∃ (k : Nat) (y : Int), k ≤ n ∧ i = .int .i64 k ∧ v = .int .i64 y ∧ 0 ≤ y ∧ y ≤ k ∧ Hid (weight (xs.take k) = y)) (fun _ i => n - (intOf i).toNat)
  case atStart => exact ⟨0, 0, Nat.zero_le _, rfl, rfl, by omega, by omega, rfl⟩
  case round =>
    obtain ⟨k, y, hk, rfl, rfl, hy0, hy1, HY⟩ := hrel
    by_cases hlt : k < n
    · obtain ⟨b, off, rfl, hall⟩ := HA.out (by omega)
      have hck := hall k hlt
      clear hall
      have hkx : k < xs.length := by rw [HL.out]; exact hlt
      have hb0 := HZ.out (xs.getD k 0) (getD_mem' hkx)
      have hfin : weight (xs.take (k + 1)) = y + xs.getD k 0 := by rw [weight_take xs k hkx, HY.out]
      obtain ⟨x, hx⟩ : ∃ x, x = xs.getD k 0 := ⟨_, rfl⟩
      rw [← hx] at hck hb0 hfin
      obtain ⟨hb0, hb1⟩ := hb0
      have HF := Lib.hid hfin; clear hfin hx hkx HY HZ HL HA
      go_wp2
      go_round
      case rel => exact ⟨k + 1, y + x, by omega, by go_num, rfl, by omega, by omega, HF⟩
      case measure => simp [intOf]; omega
    · have hkn : k = n := by omega
      subst hkn
      have hfin : y = weight xs := by rw [← HY.out, List.take_of_length_le (by rw [HL.out]; exact Nat.le_refl _)]
      have HF := Lib.hid hfin; clear hfin
      go_wp2
      go_ret
      exact ⟨ret_int HF.out, rfl⟩
/-- impl.weightOf. -/
theorem weightOf_any (ao : Option Addr) (n cap : Nat) (xs : List Int) (w : World) (hr : Rd w ao n xs) (hn : n ≤ 1048576) (hbits : ∀ x ∈ xs, 0 ≤ x ∧ x ≤ 1) :
    Calls Try.prog 46 #[.slice ao n cap] w fun e w' => e = .returned (.int .i64 (weight xs)) ∧ w = w' := by
  obtain ⟨hlen, hat⟩ := hr
  have HL := Lib.hid hlen; clear hlen
  have HA := Lib.hid hat; clear hat
  have HZ := Lib.hid hbits; clear hbits
  go_enter Try.func46, Try.ntmps46
  go_wp2
  go_loop [3, 8] (fun v i => ∃ (k : Nat) (y : Int), k ≤ n ∧ i = .int .i64 k ∧ v = .int .i64 y ∧ 0 ≤ y ∧ y ≤ k ∧ Hid (weight (xs.take k) = y)) (fun _ i => n - (intOf i).toNat)
  case atStart => exact ⟨0, 0, Nat.zero_le _, rfl, rfl, by omega, by omega, rfl⟩
  case round =>
    obtain ⟨k, y, hk, rfl, rfl, hy0, hy1, HY⟩ := hrel
    by_cases hlt : k < n
    · obtain ⟨b, off, rfl, hall⟩ := HA.out (by omega)
      have hck := hall k hlt
      clear hall
      have hkx : k < xs.length := by rw [HL.out]; exact hlt
      have hb0 := HZ.out (xs.getD k 0) (getD_mem' hkx)
      have hfin : weight (xs.take (k + 1)) = y + xs.getD k 0 := by rw [weight_take xs k hkx, HY.out]
      obtain ⟨x, hx⟩ : ∃ x, x = xs.getD k 0 := ⟨_, rfl⟩
      rw [← hx] at hck hb0 hfin
      obtain ⟨hb0, hb1⟩ := hb0
      have HF := Lib.hid hfin; clear hfin hx hkx HY HZ HL HA
      go_wp2
      go_round
      case rel => exact ⟨k + 1, y + x, by omega, by go_num, rfl, by omega, by omega, HF⟩
      case measure => simp [intOf]; omega
    · have hkn : k = n := by omega
      subst hkn
      have hfin : y = weight xs := by rw [← HY.out, List.take_of_length_le (by rw [HL.out]; exact Nat.le_refl _)]
      have HF := Lib.hid hfin; clear hfin
      go_wp2
      go_ret
      exact ⟨ret_int HF.out, rfl⟩

/-- r is the index of the first x among the numbers, or -1. -/
def FirstAt (xs : List Int) (x r : Int) : Prop := (r = -1 ∧ ∀ j, j < xs.length → xs.getD j 0 ≠ x) ∨ ∃ k : Nat, r = k ∧ k < xs.length ∧ xs.getD k 0 = x ∧ ∀ j, j < k → xs.getD j 0 ≠ x
theorem getD_mem_iff (xs : List Int) (x : Int) : x ∈ xs ↔ ∃ j, j < xs.length ∧ xs.getD j 0 = x := by
  rw [List.mem_iff_getElem]
  constructor
  · rintro ⟨j, h, e⟩; exact ⟨j, h, by simpa [List.getD, h] using e⟩
  · rintro ⟨j, h, e⟩; exact ⟨j, h, by simpa [List.getD, h] using e⟩
theorem firstAt_mem {xs : List Int} {x r : Int} (h : FirstAt xs x r) : (decide (0 ≤ r)) = decide (x ∈ xs) := by
  rw [decide_eq_decide, getD_mem_iff]
  rcases h with ⟨h1, h2⟩ | ⟨k, h1, h2, h3, h4⟩
  · constructor
    · intro h; omega
    · rintro ⟨j, hj, e⟩; exact absurd e (h2 j hj)
  · exact ⟨fun _ => ⟨k, h2, h3⟩, fun _ => by omega⟩
/-- slices.Index. -/
theorem index_any (ao : Option Addr) (n cap : Nat) (xs : List Int) (x : Int) (w : World) (hr : Rd w ao n xs) (hn : n ≤ 1048576) :
    Calls Try.prog 70 #[.slice ao n cap, .int .i64 x] w fun e w' => ∃ r, e = .returned (.int .i64 r) ∧ FirstAt xs x r ∧ w = w' := by
  obtain ⟨hlen, hat⟩ := hr
  have HL := Lib.hid hlen; clear hlen
  have HA := Lib.hid hat; clear hat
  go_enter Try.func70, Try.ntmps70
  go_wp2
  go_loop [8] (fun i => ∃ k : Nat, k ≤ n ∧ i = .int .i64 k ∧ Hid (∀ j, j < k → xs.getD j 0 ≠ x)) (fun i => n - (intOf i).toNat)
  case atStart => exact ⟨0, Nat.zero_le _, rfl, fun j h => absurd h (by omega)⟩
  case round =>
    obtain ⟨k, hk, rfl, HY⟩ := hrel
    by_cases hlt : k < n
    · obtain ⟨b, off, rfl, hall⟩ := HA.out (by omega)
      have hck := hall k hlt
      clear hall
      obtain ⟨y, hy⟩ : ∃ y, y = xs.getD k 0 := ⟨_, rfl⟩
      rw [← hy] at hck
      have HYK := Lib.hid hy; clear hy
      by_cases hxy : x = y
      · have t1 : (x == y) = true := by simp [hxy]
        have hfin : FirstAt xs x k := .inr ⟨k, rfl, by rw [HL.out]; exact hlt, by rw [← HYK.out, hxy], HY.out⟩
        have HF := Lib.hid hfin; clear hfin hxy
        go_wp2
        go_ret
        exact ⟨_, rfl, HF.out, rfl⟩
      · have t1 : (x == y) = false := by simp [hxy]
        have hfin : ∀ j, j < k + 1 → xs.getD j 0 ≠ x := fun j hj => by
          by_cases e : j = k
          · rw [e, ← HYK.out]; exact fun h => hxy h.symm
          · exact HY.out j (by omega)
        have HF := Lib.hid hfin; clear hfin hxy
        go_wp2
        go_round
        case rel => exact ⟨k + 1, by omega, by go_num, HF⟩
        case measure => simp [intOf]; omega
    · have hkn : k = n := by omega
      subst hkn
      have hfin : FirstAt xs x (-1) := .inl ⟨rfl, fun j hj => HY.out j (by rw [← HL.out]; exact hj)⟩
      have HF := Lib.hid hfin; clear hfin
      go_wp2
      go_ret
      exact ⟨_, rfl, HF.out, rfl⟩
/-- slices.Contains. -/
theorem contains_any (ao : Option Addr) (n cap : Nat) (xs : List Int) (x : Int) (w : World) (hr : Rd w ao n xs) (hn : n ≤ 1048576) :
    Calls Try.prog 56 #[.slice ao n cap, .int .i64 x] w fun e w' => e = .returned (.bool (decide (x ∈ xs))) ∧ w = w' := by
  have HR := Lib.hid hr; clear hr
  go_enter Try.func56, Try.ntmps56
  go_wp2_with fail
  refine (index_any _ _ _ xs x _ HR.out hn).mono ?_
  rintro e w' ⟨r, rfl, hf, rfl⟩
  have HF := Lib.hid (firstAt_mem hf); clear hf
  go_wp2
  go_ret
  exact ⟨ret_bool HF.out, rfl⟩

theorem cob_zero (wd p : Int) (xs : List Int) : crcOfBits wd p 0 xs = if isCrc wd p = false then (0, 1) else if isBits xs = false then (0, 3) else (crcRaw wd p 0 xs, 0) := by
  unfold crcOfBits crcCode
  rcases hI : isCrc wd p with _ | _
  · simp
  · obtain ⟨W, g, rfl, h1, h2, rfl, -⟩ := isCrc_get hI
    have hs : seedIn (W : Int) 0 = true := by have := seedIn_put (0#W); rwa [show (((0#W).toNat : Nat) : Int) = 0 from by simp] at this
    rw [hs]
    rcases hb : isBits xs with _ | _ <;> simp
theorem weight_one {xs : List Int} (hb : ∀ x ∈ xs, 0 ≤ x ∧ x ≤ 1) : decide (0 < weight xs) = decide (1 ∈ xs) := by
  rw [decide_eq_decide, getD_mem_iff]
  constructor
  · intro h
    by_cases he : ∃ j, j < xs.length ∧ xs.getD j 0 = 1
    · exact he
    · have hz : ∀ x ∈ xs, x = 0 := fun x hx => by
        obtain ⟨j, hj, e⟩ := (getD_mem_iff xs x).1 hx
        have h2 := hb x hx
        have h3 : x ≠ 1 := fun h1 => he ⟨j, hj, by rw [e, h1]⟩
        omega
      have e : xs = List.replicate xs.length 0 := List.eq_replicate_iff.2 ⟨rfl, hz⟩
      rw [e, weight_zeros] at h; omega
  · rintro ⟨j, _, e⟩
    exact weight_pos hb j e
theorem isMissed_code {wd p v c : Int} {xs : List Int} (h : crcOfBits wd p 0 xs = (v, c)) (hc : c ≠ 0) : isMissed wd p xs = false := by
  rw [cob_zero] at h
  unfold isMissed
  split at h
  · rename_i h1; rw [h1]; rfl
  · split at h
    · rename_i h1; rw [h1]; simp
    · simp only [Prod.mk.injEq] at h; omega
theorem isMissed_synd {wd p v : Int} {xs : List Int} (h : crcOfBits wd p 0 xs = (v, 0)) : isMissed wd p xs = (decide (v = 0) && decide (1 ∈ xs)) := by
  rw [cob_zero] at h
  unfold isMissed
  split at h
  · simp at h
  · split at h
    · simp at h
    · rename_i h1 h2
      have h1 : isCrc wd p = true := by simpa using h1
      have h2 : isBits xs = true := by simpa using h2
      simp only [Prod.mk.injEq, and_true] at h
      rw [h1, h2, h, weight_one (isBits_iff.1 h2).2, Bool.and_comm]
      simp

/-- impl.IsMissed. -/
theorem isMissed_any (wd p : Int) (ao : Option Addr) (n cap : Nat) (xs : List Int) (w : World) (hr : Rd w ao n xs) (hn : n ≤ 1048576) :
    Calls Try.prog 18 #[.agg #[.int .i64 wd, .int .i64 p], .slice ao n cap] w fun e w' => e = .returned (.bool (isMissed wd p xs)) ∧ Below w.heap.size w w' := by
  obtain rfl : xs.length = n := hr.len
  have hb0 : Below w.heap.size w (w.alloc (.cells #[.int .i64 wd, .int .i64 p] 25)) := (Below.refl _ _).alloc (Nat.le_refl _) _
  have HB := Lib.hid hb0; clear hb0
  have HR := Lib.hid hr; clear hr
  obtain ⟨v, c, hF⟩ : ∃ v c, crcOfBits wd p 0 xs = (v, c) := ⟨_, _, rfl⟩
  by_cases hc : c = 0
  · subst hc
    rw [isMissed_synd hF]
    have HF := Lib.hid hF; clear hF
    by_cases hv : v = 0
    · subst hv
      rw [show (decide ((0 : Int) = 0) && decide (1 ∈ xs)) = decide (1 ∈ xs) from by simp]
      go_enter Try.func18, Try.ntmps18
      go_wp2_with fail
      refine (syndromeOf_any _ _ _ _ xs _ (HR.out.below HB.out) hn).mono ?_
      rintro e w1 ⟨rfl, b1⟩
      rw [HF.out]
      go_wp2_with (go_at_call 56; refine (contains_any _ _ _ xs _ _ (HR.out.below (below_two HB.out b1)) hn).mono ?_; rintro e w' ⟨rfl, rfl⟩)
      go_ret
      exact ⟨rfl, below_two HB.out b1⟩
    · rw [show (decide (v = 0) && decide (1 ∈ xs)) = false from by simp [hv]]
      have t1 : (v == 0) = false := by simp [hv]
      clear hv
      go_enter Try.func18, Try.ntmps18
      go_wp2_with fail
      refine (syndromeOf_any _ _ _ _ xs _ (HR.out.below HB.out) hn).mono ?_
      rintro e w1 ⟨rfl, b1⟩
      rw [HF.out]
      go_wp2
      go_ret
      exact ⟨rfl, below_two HB.out b1⟩
  · rw [isMissed_code hF hc]
    have HF := Lib.hid hF; clear hF
    have t1 : (c == 0) = false := by simp [hc]
    clear hc
    go_enter Try.func18, Try.ntmps18
    go_wp2_with fail
    refine (syndromeOf_any _ _ _ _ xs _ (HR.out.below HB.out) hn).mono ?_
    rintro e w1 ⟨rfl, b1⟩
    rw [HF.out]
    go_wp2
    go_ret
    exact ⟨rfl, below_two HB.out b1⟩

theorem isMissed_1 {wd p : Int} {xs : List Int} (h : isCrc wd p = false) : isMissed wd p xs = false := by unfold isMissed; rw [h]; rfl
theorem isMissed_2 {wd p : Int} {xs : List Int} (h : isBits xs = false) : isMissed wd p xs = false := by unfold isMissed; rw [h]; simp
theorem isMissed_3 {wd p : Int} {xs : List Int} (h1 : isCrc wd p = true) (h2 : isBits xs = true) : isMissed wd p xs = (decide (0 < weight xs) && decide (crcRaw wd p 0 xs = 0)) := by unfold isMissed; rw [h1, h2]; simp
/-- spec.IsMissed. -/
theorem sIsMissed_any (wd p : Int) (ao : Option Addr) (n cap : Nat) (xs : List Int) (w : World) (hr : Rd w ao n xs) (hn : n ≤ 1048576) :
    Calls Try.prog 19 #[.agg #[.int .i64 wd, .int .i64 p], .slice ao n cap] w fun e w' => e = .returned (.bool (isMissed wd p xs)) ∧ Below w.heap.size w w' := by
  obtain rfl : xs.length = n := hr.len
  have hb0 : Below w.heap.size w (w.alloc (.cells #[.int .i64 wd, .int .i64 p] 25)) := (Below.refl _ _).alloc (Nat.le_refl _) _
  have HB := Lib.hid hb0; clear hb0
  have HR := Lib.hid hr; clear hr
  have hsc := struct_cells (w := w) wd p 25
  rcases hI : isCrc wd p with _ | _
  · rw [isMissed_1 hI]
    have HI := Lib.hid hI; clear hI hsc
    go_enter Try.func19, Try.ntmps19
    go_wp2_with fail
    refine (sIsCrc_any _ _ _).mono ?_
    rintro e w1 ⟨rfl, b1⟩
    rw [HI.out]
    go_wp2
    go_ret
    exact ⟨rfl, below_two HB.out b1⟩
  · rcases hB : isBits xs with _ | _
    · rw [isMissed_2 hB]
      have HI := Lib.hid hI; clear hI hsc
      have HBT := Lib.hid hB; clear hB
      go_enter Try.func19, Try.ntmps19
      go_wp2_with fail
      refine (sIsCrc_any _ _ _).mono ?_
      rintro e w1 ⟨rfl, b1⟩
      rw [HI.out]
      go_wp2_with fail
      refine (sIsBits_any _ _ _ _ _ (HR.out.below (below_two HB.out b1)) (by omega)).mono ?_
      rintro e w' ⟨rfl, rfl⟩
      rw [HBT.out]
      go_wp2
      go_ret
      exact ⟨rfl, below_two HB.out b1⟩
    · rw [isMissed_3 hI hB]
      have hbits := (isBits_iff.1 hB).2
      have HZ := Lib.hid hbits; clear hbits
      have HBT := Lib.hid hB; clear hB
      by_cases hw : 0 < weight xs
      · obtain ⟨W, g, rfl, h1, h2, rfl, -⟩ := isCrc_get hI
        rw [crcRaw_zero, show (decide (0 < weight xs) && decide (regOf g 0#W xs = 0)) = decide (regOf g 0#W xs = 0) from by simp [hw]]
        have HI := Lib.hid hI; clear hI
        obtain ⟨hsc0, hsc1⟩ := hsc
        go_enter Try.func19, Try.ntmps19
        go_wp2_with fail
        refine (sIsCrc_any _ _ _).mono ?_
        rintro e w1 ⟨rfl, b1⟩
        rw [HI.out]
        have hc0 := (b1.cell (p := ⟨w.heap.size, 0, none⟩) (World.block_lt_of_cell? _ _ hsc0)).trans hsc0
        have hc1 := (b1.cell (p := ⟨w.heap.size, 1, none⟩) (World.block_lt_of_cell? _ _ hsc1)).trans hsc1
        have b2 := below_two HB.out b1
        clear hsc0 hsc1
        go_wp2_with fail
        refine (sIsBits_any _ _ _ _ _ (HR.out.below b2) (by omega)).mono ?_
        rintro e w' ⟨rfl, rfl⟩
        rw [HBT.out]
        go_wp2_with fail
        refine (sWeight_any _ _ _ _ _ (HR.out.below b2) hn HZ.out).mono ?_
        rintro e w' ⟨rfl, rfl⟩
        go_wp2_with fail
        refine (feed0_any W g _ _ _ xs _ h1 h2 (HR.out.below b2) hn HZ.out).mono ?_
        rintro e w3 ⟨rfl, b3⟩
        go_wp2
        go_ret
        exact ⟨ret_bool (beq_dec _ _), below_two b2 b3⟩
      · rw [show (decide (0 < weight xs) && decide (crcRaw wd p 0 xs = 0)) = false from by simp [hw]]
        have HI := Lib.hid hI; clear hI hsc
        go_enter Try.func19, Try.ntmps19
        go_wp2_with fail
        refine (sIsCrc_any _ _ _).mono ?_
        rintro e w1 ⟨rfl, b1⟩
        rw [HI.out]
        go_wp2_with fail
        refine (sIsBits_any _ _ _ _ _ (HR.out.below (below_two HB.out b1)) (by omega)).mono ?_
        rintro e w' ⟨rfl, rfl⟩
        rw [HBT.out]
        go_wp2_with fail
        refine (sWeight_any _ _ _ _ _ (HR.out.below (below_two HB.out b1)) hn HZ.out).mono ?_
        rintro e w' ⟨rfl, rfl⟩
        go_wp2
        go_ret
        exact ⟨rfl, below_two HB.out b1⟩
end Go.Proofs.Ytfmbefmiglpijaa
