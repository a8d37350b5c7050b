/-
  Chapter 18: the small functions of both sides: ranges, the number of cells, runs, the beginning of a list, bytes.
-/
import Derived.Test.YtilkopbfbmibgaaLi0
import Derived.Test.YtilkopbfbmibgaaSame
import Derived.Test.YtilkopbfbmibgaaOneB
namespace Go.Proofs.Ytilkopbfbmibgaa
open Go.RowKit

theorem isPre_yes {p : Int} (h0 : 3 ≤ p) (h1 : p ≤ 15) : isPre p = true := isPre_iff.2 ⟨h0, h1⟩
theorem isPre_low {p : Int} (h : p < 3) : isPre p = false := by unfold isPre; rw [decide_eq_false (by omega)]; rfl
theorem isPre_high {p : Int} (h : 15 < p) : isPre p = false := by unfold isPre; rw [decide_eq_false (p := p ≤ 15) (by omega), Bool.and_false]
theorem isPreamble_any (p : Int) (w : World) : Calls Try.prog 55 #[.int .i64 p] w fun e w' => e = .returned (.bool (isPre p)) ∧ w = w' := by
  by_cases h0 : 3 ≤ p
  · by_cases h1 : p ≤ 15
    · rw [isPre_yes h0 h1]
      go_enter Try.func55, Try.ntmps55
      go_wp2
      go_ret
      exact ⟨rfl, rfl⟩
    · rw [isPre_high (by omega)]
      go_enter Try.func55, Try.ntmps55
      go_wp2
      go_ret
      exact ⟨rfl, rfl⟩
  · rw [isPre_low (by omega)]
    go_enter Try.func55, Try.ntmps55
    go_wp2
    go_ret
    exact ⟨rfl, rfl⟩
theorem sPreamble_any (p : Int) (w : World) : Calls Try.prog 48 #[.int .i64 p] w fun e w' => e = .returned (.bool (isPre p)) ∧ w = w' := by
  by_cases h : 3 ≤ p ∧ p ≤ 15
  · rw [isPre_yes h.1 h.2]
    go_enter Try.func48, Try.ntmps48
    go_wp2_with (go_at_call 60; refine (l01In_yes _ _ _ _ h.1 h.2).mono ?_; rintro e w' ⟨rfl, rfl⟩)
    go_ret
    exact ⟨rfl, rfl⟩
  · have h' : p < 3 ∨ 15 < p := by omega
    rw [show isPre p = false from by rcases h' with h' | h'; exact isPre_low h'; exact isPre_high h']
    have H := Lib.hid h'; clear h h'
    go_enter Try.func48, Try.ntmps48
    go_wp2_with (go_at_call 60; refine (l01In_no _ _ _ _ H.out).mono ?_; rintro e w' ⟨rfl, rfl⟩)
    go_ret
    exact ⟨rfl, rfl⟩
theorem isBitCount_any (x : Int) (w : World) : Calls Try.prog 51 #[.int .i64 x] w fun e w' => e = .returned (.bool (inR 8192 x)) ∧ w = w' := by
  by_cases h0 : 0 ≤ x
  · by_cases h1 : x ≤ 8192
    · rw [inR_true h0 h1]
      go_enter Try.func51, Try.ntmps51
      go_wp2
      go_ret
      exact ⟨rfl, rfl⟩
    · rw [inR_high (by omega)]
      go_enter Try.func51, Try.ntmps51
      go_wp2
      go_ret
      exact ⟨rfl, rfl⟩
  · rw [inR_low (by omega)]
    go_enter Try.func51, Try.ntmps51
    go_wp2
    go_ret
    exact ⟨rfl, rfl⟩
/-! ### TransmissionSize -/
theorem ts_n {n p : Int} (h : n < 0 ∨ 1024 < n) : transmissionSize n p = (0, 2) := by unfold transmissionSize; rw [if_neg (by omega)]
theorem ts_p {n p : Int} (h : isPre p = false) : transmissionSize n p = (0, 2) := by unfold transmissionSize; rw [if_neg (by rw [h]; simp)]
theorem ts_0 {n p : Int} (h0 : 0 ≤ n) (h1 : n ≤ 1024) (h : isPre p = true) : transmissionSize n p = (p + 3 + 10 * n, 0) := by unfold transmissionSize; rw [if_pos ⟨⟨h0, h1⟩, h⟩]
theorem transmissionSize_any (n p : Int) (w : World) : Calls Try.prog 23 #[.int .i64 n, .int .i64 p] w fun e w' => e = .returned (.tuple #[.int .i64 (transmissionSize n p).1, .int .i64 (transmissionSize n p).2]) ∧ w = w' := by
  by_cases h0 : n < 0
  · rw [ts_n (.inl h0)]
    go_enter Try.func23, Try.ntmps23
    go_wp2
    go_ret2
    exact ⟨rfl, rfl⟩
  by_cases h1 : 1024 < n
  · rw [ts_n (.inr h1)]
    go_enter Try.func23, Try.ntmps23
    go_wp2
    go_ret2
    exact ⟨rfl, rfl⟩
  rcases hp : isPre p with _ | _
  · rw [ts_p hp]
    have HP := Lib.hid hp; clear hp
    go_enter Try.func23, Try.ntmps23
    go_wp2_with (go_at_call 55; refine (isPreamble_any _ _).mono ?_; rintro e w' ⟨rfl, rfl⟩; rw [HP.out])
    go_ret2
    exact ⟨rfl, rfl⟩
  · obtain ⟨p0, p1⟩ := isPre_iff.1 hp
    rw [ts_0 (by omega) (by omega) hp]
    have HP := Lib.hid hp; clear hp
    have e : p + 3 + 10 * n = p + 1 + 10 * n + 2 := by omega
    rw [e]; clear e
    go_enter Try.func23, Try.ntmps23
    go_wp2_with (go_at_call 55; refine (isPreamble_any _ _).mono ?_; rintro e w' ⟨rfl, rfl⟩; rw [HP.out])
    go_ret2
    exact ⟨rfl, rfl⟩
theorem sTransmissionSize_any (n p : Int) (w : World) : Calls Try.prog 33 #[.int .i64 n, .int .i64 p] w fun e w' => e = .returned (.tuple #[.int .i64 (transmissionSize n p).1, .int .i64 (transmissionSize n p).2]) ∧ w = w' := by
  by_cases h0 : 0 ≤ n ∧ n ≤ 1024
  rotate_left
  · have h' : n < 0 ∨ 1024 < n := by omega
    rw [ts_n h']
    have H := Lib.hid h'; clear h' h0
    go_enter Try.func33, Try.ntmps33
    go_wp2_with (go_at_call 60; refine (l01In_no _ _ _ _ H.out).mono ?_; rintro e w' ⟨rfl, rfl⟩)
    go_ret2
    exact ⟨rfl, rfl⟩
  rcases hp : isPre p with _ | _
  · rw [ts_p hp]
    have HP := Lib.hid hp; clear hp
    have H := Lib.hid h0; clear h0
    go_enter Try.func33, Try.ntmps33
    go_wp2_with (first
      | (go_at_call 60; refine (l01In_yes _ _ _ _ H.out.1 H.out.2).mono ?_; rintro e w' ⟨rfl, rfl⟩)
      | (go_at_call 48; refine (sPreamble_any _ _).mono ?_; rintro e w' ⟨rfl, rfl⟩; rw [HP.out]))
    go_ret2
    exact ⟨rfl, rfl⟩
  · obtain ⟨p0, p1⟩ := isPre_iff.1 hp
    obtain ⟨n0, n1⟩ := h0
    rw [ts_0 n0 n1 hp]
    have HP := Lib.hid hp; clear hp
    go_enter Try.func33, Try.ntmps33
    go_wp2_with (first
      | (go_at_call 60; refine (l01In_yes _ _ _ _ n0 n1).mono ?_; rintro e w' ⟨rfl, rfl⟩)
      | (go_at_call 48; refine (sPreamble_any _ _).mono ?_; rintro e w' ⟨rfl, rfl⟩; rw [HP.out]))
    go_ret2
    exact ⟨rfl, rfl⟩
/-! ### runs -/
theorem runL_next {v : Int} {xs : List Int} {k : Nat} (h : k < xs.length) (e : xs.getD k 0 = v) : runL v (xs.drop k) = 1 + runL v (xs.drop (k + 1)) := by rw [runL_at h, if_pos e]; omega
theorem runL_stop {v : Int} {xs : List Int} {k : Nat} (h : k < xs.length) (e : xs.getD k 0 ≠ v) : runL v (xs.drop k) = 0 := by rw [runL_at h, if_neg e]
theorem runL_out {v : Int} {xs : List Int} : runL v (xs.drop xs.length) = 0 := by rw [List.drop_length]; rfl
theorem add_cell (b off k : Nat) : (Addr.mk b off none).add k = Addr.mk b (off + k) none := by
  unfold Addr.add
  rcases Nat.eq_zero_or_pos k with rfl | hp
  · simp
  · simp [show k ≠ 0 from by omega]
theorem Rd.plus {w : World} {b off k m : Nat} {ys : List Int} (h : Rd w (Option.map (fun (x : Addr) => x.add k) (some ⟨b, off, none⟩)) m ys) : Rd w (some ⟨b, off + k, none⟩) m ys := by
  rw [Option.map_some, add_cell] at h
  exact h
/-- impl.takeRun. -/
theorem takeRun_any (ao : Option Addr) (n cap : Nat) (xs : List Int) (v : Int) (w : World) (hr : Rd w ao n xs) (hn : n ≤ 1048576) (hcap : n ≤ cap) (hcap2 : cap ≤ 9223372036854775807) :
    Calls Try.prog 68 #[.slice ao n cap, .int .i64 v] w fun e w' => ∃ ao' m cap', e = .returned (.tuple #[.int .i64 ((runL v xs : Nat) : Int), .slice ao' m cap']) ∧ m = n - runL v xs ∧ (∀ W, Rd W ao n xs → Rd W ao' m (xs.drop (runL v xs))) ∧ m ≤ cap' ∧ cap' ≤ 9223372036854775807 ∧ ∃ q, w' = w.drewN q := by
  have HL := Lib.hid hr.len; have HR := Lib.hid hr; clear hr
  go_enter Try.func68, Try.ntmps68
  go_wp2
  go_loopw [6] (fun i wr => ∃ k : Nat, k ≤ n ∧ i = .int .i64 k ∧ Hid (runL v xs = k + runL v (xs.drop k)) ∧ w = wr) (fun i _ => n - (intOf i).toNat)
  case atStart => exact ⟨0, Nat.zero_le _, rfl, Lib.hid (by rw [List.drop_zero]; omega), rfl⟩
  case round =>
    obtain ⟨k, hk, rfl, HI, rfl⟩ := hrel
    have fin : Hid (∀ W, Rd W ao n xs → Rd W (if cap = k then ao else Option.map (fun (x : Addr) => x.add k) ao) (n - k) (xs.drop k)) := Lib.hid (fun W hW => by
      by_cases hc : cap = k
      · rw [if_pos hc, show n - k = 0 from by omega, List.drop_of_length_le (by rw [HL.out]; omega)]; exact Rd.nil_
      · rw [if_neg hc]
        have := hW.slice (a := k) (k := n - k) (by omega)
        rwa [List.take_of_length_le (by rw [List.length_drop, HL.out]; exact Nat.le_refl _)] at this)
    by_cases hlt : k < n
    · obtain ⟨b, off, rfl, hc⟩ := HR.out.here (by omega)
      have hck := hc k hlt
      clear hc
      by_cases hx : xs.getD k 0 = v
      · have HN := Lib.hid (HI.out.trans (by rw [runL_next (by rw [HL.out]; exact hlt) hx]; omega : k + runL v (xs.drop k) = (k + 1) + runL v (xs.drop (k + 1))))
        rw [hx] at hck
        clear hx fin HI
        have hd : (v == v) = true := by simp
        go_wp2
        go_roundw
        case rel => exact ⟨k + 1, by omega, by go_num, HN, by first | rfl | trivial⟩
        case measure => simp [intOf]; omega
      · have HK := Lib.hid (HI.out.trans (by rw [runL_stop (by rw [HL.out]; exact hlt) hx, Nat.add_zero]))
        have HF := fin
        obtain ⟨x, hxe⟩ : ∃ x, x = xs.getD k 0 := ⟨_, rfl⟩
        rw [← hxe] at hck hx
        have hd : (x == v) = false := by simp [hx]
        clear hx fin HI hxe
        have hne : ¬ cap = k := by omega
        go_wp2
        go_quiet (fail)
        go_wp2
        go_ret2
        rw [HK.out]
        rw [if_neg hne] at HF
        exact ⟨_, _, _, rfl, rfl, fun W hW => (HF.out W hW).plus, by omega, by omega, _, rfl⟩
    · have hkn : k = n := by omega
      subst hkn
      have HK := Lib.hid (HI.out.trans (by rw [show xs.drop k = [] from List.drop_of_length_le (by rw [HL.out]; exact Nat.le_refl _)]; rfl : k + runL v (xs.drop k) = k))
      have HF := fin
      clear fin HI
      by_cases hne : cap = k
      · go_wp2
        go_quiet (fail)
        go_wp2
        go_ret2
        rw [HK.out]
        rw [if_pos hne] at HF
        exact ⟨_, 0, _, rfl, by omega, by simpa using HF.out, by omega, by omega, _, rfl⟩
      · go_wp2
        go_quiet (fail)
        go_wp2
        go_ret2
        rw [HK.out]
        rw [if_neg hne] at HF
        exact ⟨_, 0, _, rfl, by omega, by simpa using HF.out, by omega, by omega, _, rfl⟩
/-- spec.l18Run. -/
theorem l18Run_any (ao : Option Addr) (n cap : Nat) (xs : List Int) (a : Nat) (v : Int) (w : World) (hr : Rd w ao n xs) (hn : n ≤ 1048576) (ha : a ≤ n) :
    Calls Try.prog 77 #[.slice ao n cap, .int .i64 a, .int .i64 v] w fun e w' => e = .returned (.int .i64 ((runL v (xs.drop a) : Nat) : Int)) ∧ w = w' := by
  have HL := Lib.hid hr.len; have HR := Lib.hid hr; clear hr
  go_enter Try.func77, Try.ntmps77
  go_wp2
  go_loopw [7] (fun i wr => ∃ k : Nat, a + k ≤ n ∧ i = .int .i64 k ∧ Hid (runL v (xs.drop a) = k + runL v (xs.drop (a + k))) ∧ w = wr) (fun i _ => n - (intOf i).toNat)
  case atStart => exact ⟨0, ha, rfl, Lib.hid (by rw [Nat.add_zero]; omega), rfl⟩
  case round =>
    obtain ⟨k, hk, rfl, HI, rfl⟩ := hrel
    by_cases hlt : a + k < n
    · obtain ⟨b, off, rfl, hc⟩ := HR.out.here (by omega)
      have hck := hc (a + k) hlt
      clear hc
      by_cases hx : xs.getD (a + k) 0 = v
      · have HN := Lib.hid (HI.out.trans (by rw [runL_next (by rw [HL.out]; exact hlt) hx, Nat.add_assoc]; omega : k + runL v (xs.drop (a + k)) = (k + 1) + runL v (xs.drop (a + (k + 1)))))
        rw [hx] at hck
        clear hx HI
        have hd : (v == v) = true := by simp
        go_wp2
        go_roundw
        case rel => exact ⟨k + 1, by omega, by go_num, HN, by first | rfl | trivial⟩
        case measure => simp [intOf]; omega
      · have HK := Lib.hid (HI.out.trans (by rw [runL_stop (by rw [HL.out]; exact hlt) hx, Nat.add_zero]))
        obtain ⟨x, hxe⟩ : ∃ x, x = xs.getD (a + k) 0 := ⟨_, rfl⟩
        rw [← hxe] at hck hx
        have hd : (x == v) = false := by simp [hx]
        clear hx HI hxe
        go_wp2
        go_ret
        exact ⟨by rw [HK.out]; rfl, rfl⟩
    · have hkn : a + k = n := by omega
      have HK := Lib.hid (HI.out.trans (by rw [show xs.drop (a + k) = [] from List.drop_of_length_le (by rw [HL.out]; omega)]; rfl : k + runL v (xs.drop (a + k)) = k))
      clear HI
      go_wp2
      go_ret
      exact ⟨by rw [HK.out]; rfl, rfl⟩
end Go.Proofs.Ytilkopbfbmibgaa
