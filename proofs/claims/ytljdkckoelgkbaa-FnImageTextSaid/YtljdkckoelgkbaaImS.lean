/-
  Chapter 14, the model: l14Digit, ReadImageText.
-/
import Derived.Test.YtljdkckoelgkbaaImR
import Derived.BigQuiet
import Derived.Deep.RegionHeld3
namespace Go.Proofs.Ytljdkckoelgkbaa
open Go.RowKit

theorem l14Digit_any (c : Int) (w : World) (h0 : 0 ≤ c) (h1 : c < 256) : Calls Try.prog 28 #[.int .u8 c] w fun e w' => e = .returned (.int .i64 (digitOf c)) ∧ w = w' := by
  by_cases a1 : 48 ≤ c
  · by_cases a2 : c ≤ 57
    · rw [show digitOf c = c - 48 from by unfold digitOf; rw [if_pos ⟨a1, a2⟩]]
      have hw1 : IntKind.u8.wrap (c - 48) = c - 48 := by rw [IntKind.wrap_u8]; omega
      have hw2 : IntKind.i64.wrap (c - 48) = c - 48 := by rw [IntKind.wrap_i64]; omega
      go_enter Try.func28, Try.ntmps28
      go_wp2
      go_ret
      exact ⟨rfl, rfl⟩
    · by_cases a3 : 97 ≤ c
      · by_cases a4 : c ≤ 102
        · rw [show digitOf c = c - 97 + 10 from by unfold digitOf; rw [if_neg (by omega), if_pos ⟨a3, a4⟩]; omega]
          have hw1 : IntKind.u8.wrap (c - 97) = c - 97 := by rw [IntKind.wrap_u8]; omega
          have hw2 : IntKind.i64.wrap (c - 97) = c - 97 := by rw [IntKind.wrap_i64]; omega
          have hw3 : IntKind.i64.wrap (c - 97 + 10) = c - 97 + 10 := by rw [IntKind.wrap_i64]; omega
          go_enter Try.func28, Try.ntmps28
          go_wp2
          go_ret
          exact ⟨rfl, rfl⟩
        · rw [show digitOf c = -1 from by unfold digitOf; rw [if_neg (by omega), if_neg (by omega)]]
          go_enter Try.func28, Try.ntmps28
          go_wp2
          go_ret
          exact ⟨rfl, rfl⟩
      · rw [show digitOf c = -1 from by unfold digitOf; rw [if_neg (by omega), if_neg (by omega)]]
        go_enter Try.func28, Try.ntmps28
        go_wp2
        go_ret
        exact ⟨rfl, rfl⟩
  · have a3 : ¬ 97 ≤ c := by omega
    rw [show digitOf c = -1 from by unfold digitOf; rw [if_neg (by omega), if_neg (by omega)]]
    go_enter Try.func28, Try.ntmps28
    go_wp2
    go_ret
    exact ⟨rfl, rfl⟩
set_option linter.unusedSimpArgs false in
set_option maxHeartbeats 2000000 in
theorem sReadImageText_any (s : ByteArray) (w : World) (hn : s.size ≤ 1048576) :
    Calls Try.prog 12 #[.string s] w (MakesB 2 w (readImageText (nums s)).1 (readImageText (nums s)).2) := by
  have hnl := nums_len s
  by_cases hodd : s.size % 2 = 0
  rotate_left
  · rw [rit_no (by rw [hnl]; omega)]
    have hm : ((s.size : Int) % 2 != 0) = true := by simp; omega
    clear hnl
    go_enter Try.func12, Try.ntmps12
    go_wp2
    go_ret2
    exact ⟨_, rfl, Own.nil_, Below.refl _ _⟩
  have hm : ((s.size : Int) % 2 != 0) = false := by simp; omega
  by_cases hl : 2048 < s.size
  · rw [rit_no (by rw [hnl]; omega)]
    clear hnl
    go_enter Try.func12, Try.ntmps12
    go_wp2
    go_ret2
    exact ⟨_, rfl, Own.nil_, Below.refl _ _⟩
  obtain ⟨n, hn2⟩ : ∃ n, s.size = 2 * n := ⟨s.size / 2, by omega⟩
  have HNL := Lib.hid hnl; clear hnl
  have HN2 := Lib.hid hn2
  have hnb : n ≤ 1024 := by omega
  have hsi : (s.size : Int) = 2 * (n : Int) := by omega
  clear hn2 hodd
  go_enter Try.func12, Try.ntmps12
  go_wp2
  go_loopw [4, 5, 6, 7] (fun v i _u6 _u7 wr => ∃ (k : Nat) (vv : Value), k ≤ n ∧ vv = v ∧ i = .int .i64 ((2 * k : Nat) : Int) ∧ Own 2 wr w.heap.size vv (unhex (nums s) k) ∧ Below w.heap.size w wr ∧ Hid (areDigits ((nums s).take (2 * k)) = true)) (fun _ i _ _ _ => 2 * n - (intOf i).toNat)
  case atStart => exact ⟨0, _, Nat.zero_le _, rfl, rfl, Own.of_alloc_nil (Nat.le_refl _), (Below.refl _ _).alloc (Nat.le_refl _) _, rfl⟩
  case round =>
    obtain ⟨k, vv, hk, rfl, rfl, hown, hbel, hall⟩ := hrel
    by_cases hlt : k < n
    · have hks : 2 * k < s.size := by have := HN2.out; omega
      have hks1 : 2 * k + 1 < s.size := by have := HN2.out; omega
      have hkn : 2 * k < (nums s).length := by rw [HNL.out]; exact hks
      have hkn1 : 2 * k + 1 < (nums s).length := by rw [HNL.out]; exact hks1
      have hng := nums_getD s (2 * k) hks
      have hng1 := nums_getD s (2 * k + 1) hks1
      have hub : ((s[2 * k]'hks).toNat : Int) < 256 := by have := (s[2 * k]'hks).toNat_lt; omega
      have hlb : 0 ≤ ((s[2 * k]'hks).toNat : Int) := by omega
      have hub1 : ((s[2 * k + 1]'hks1).toNat : Int) < 256 := by have := (s[2 * k + 1]'hks1).toNat_lt; omega
      have hlb1 : 0 ≤ ((s[2 * k + 1]'hks1).toNat : Int) := by omega
      have hix := fun W => (show (Instr.index 9 (.string s) (.int .i64 ((2 * k : Nat) : Int))).run Try.prog W = .ok (.int .u8 ((s[2 * k]'hks).toNat : Int)) W from by
        rw [run_index_string W _ s _ _ Try.underlying9, dif_pos ⟨by omega, by omega⟩]
        simp only [Int.toNat_natCast])
      have hix1 := fun W => (show (Instr.index 9 (.string s) (.int .i64 ((2 * k + 1 : Nat) : Int))).run Try.prog W = .ok (.int .u8 ((s[2 * k + 1]'hks1).toNat : Int)) W from by
        rw [run_index_string W _ s _ _ Try.underlying9, dif_pos ⟨by omega, by omega⟩]
        simp only [Int.toNat_natCast])
      have hsu := unhex_succ (nums s) k
      obtain ⟨c, hc⟩ : ∃ c : Int, ((s[2 * k]'hks).toNat : Int) = c := ⟨_, rfl⟩
      obtain ⟨c1, hc1⟩ : ∃ c1 : Int, ((s[2 * k + 1]'hks1).toNat : Int) = c1 := ⟨_, rfl⟩
      rw [hc] at hub hlb hng hix
      rw [hc1] at hub1 hlb1 hng1 hix1
      have HNG := Lib.hid hng; have HNG1 := Lib.hid hng1
      rw [hng, hng1] at hsu
      have HSU := Lib.hid hsu
      have HKN := Lib.hid hkn; have HKN1 := Lib.hid hkn1
      have HD0 := Lib.hid (fun W => l14Digit_any c W hlb hub)
      have HD1 := Lib.hid (fun W => l14Digit_any c1 W hlb1 hub1)
      have d1 := digitOf_le c; have d2 := digitOf_ge c; have d3 := digitOf_le c1; have d4 := digitOf_ge c1
      have hw0 : IntKind.i64.wrap (((2 * k : Nat) : Int) + 1) = ((2 * k + 1 : Nat) : Int) := by rw [IntKind.wrap_i64]; omega
      have hw2 : IntKind.i64.wrap (((2 * k : Nat) : Int) + 2) = ((2 * (k + 1) : Nat) : Int) := by rw [IntKind.wrap_i64]; omega
      have hki : ((2 * k : Nat) : Int) < (s.size : Int) := by omega
      have hul := unhex_len (nums s) k
      have HO := Lib.hid hown; have HBE := Lib.hid hbel
      clear hng hng1 hsu hkn hkn1 hown hbel
      generalize hz0 : ((2 * k : Nat) : Int) = z0 at *
      generalize hz1 : ((2 * k + 1 : Nat) : Int) = z1 at *
      go_wp2
      have HO2 := Lib.hid (show Own 2 wr.drew w.heap.size vv (unhex (nums s) k) from HO.out.below (Below.drew (Below.refl _ _)))
      have HBE2 := Lib.hid (show Below w.heap.size w wr.drew from HBE.out.drew)
      refine wp_region_held_drew (S := fun w' => True) (by kernel_rfl) (trivial) (fun hHeld => ?_)
      generalize wr.drew = wd at HO2 HBE2 hHeld ⊢
      refine wpAnyH_take (i := 0) (v := ?_) rfl (by kernel_rfl) (by kernel_rfl) (by kernel_rfl) (fun _ _ _ h => h) (Or.inl ⟨by rfl, ?_⟩) (by assumption) ?_
      rotate_left
      · (intro w hSw; (try dsimp only at hSw); go_simp; (try with_reducible rfl))
      try simp only [List.getElem_toArray, List.getElem_cons_succ, List.getElem_cons_zero, Act.put, List.setIfInBounds_toArray, List.set_cons_zero, List.set_cons_succ]
      refine wpAnyH_take (i := 1) (v := ?_) rfl (by kernel_rfl) (by kernel_rfl) (by kernel_rfl) (fun _ _ _ h => h) (Or.inl ⟨by rfl, ?_⟩) (by assumption) ?_
      rotate_left
      · (intro w hSw; (try dsimp only at hSw); go_simp; (try with_reducible rfl))
      try simp only [List.getElem_toArray, List.getElem_cons_succ, List.getElem_cons_zero, Act.put, List.setIfInBounds_toArray, List.set_cons_zero, List.set_cons_succ]
      refine wpAnyH_take (i := 2) (v := ?_) rfl (by kernel_rfl) (by kernel_rfl) (by kernel_rfl) (fun _ _ _ h => h) (Or.inl ⟨by rfl, ?_⟩) (by assumption) ?_
      rotate_left
      · (intro w hSw; (try dsimp only at hSw); go_simp; (try with_reducible rfl))
      try simp only [List.getElem_toArray, List.getElem_cons_succ, List.getElem_cons_zero, Act.put, List.setIfInBounds_toArray, List.set_cons_zero, List.set_cons_succ]
      refine wpAnyH_take (i := 4) (v := ?_) rfl (by kernel_rfl) (by kernel_rfl) (by kernel_rfl) (fun _ _ _ h => h) (Or.inl ⟨by rfl, ?_⟩) (by assumption) ?_
      rotate_left
      · (intro w hSw; (try dsimp only at hSw); go_simp; (try with_reducible rfl))
      try simp only [List.getElem_toArray, List.getElem_cons_succ, List.getElem_cons_zero, Act.put, List.setIfInBounds_toArray, List.set_cons_zero, List.set_cons_succ]
      refine wpAnyH_take (i := 5) (v := ?_) rfl (by kernel_rfl) (by kernel_rfl) (by kernel_rfl) (fun _ _ _ h => h) (Or.inl ⟨by rfl, ?_⟩) (by assumption) ?_
      rotate_left
      · (intro w hSw; (try dsimp only at hSw); go_simp; (try with_reducible rfl))
      try simp only [List.getElem_toArray, List.getElem_cons_succ, List.getElem_cons_zero, Act.put, List.setIfInBounds_toArray, List.set_cons_zero, List.set_cons_succ]
      refine wpAnyH_take (i := 6) (v := ?_) rfl (by kernel_rfl) (by kernel_rfl) (by kernel_rfl) (fun _ _ _ h => h) (Or.inl ⟨by rfl, ?_⟩) (by assumption) ?_
      rotate_left
      · (intro w hSw; (try dsimp only at hSw); go_simp; (try with_reducible rfl))
      try simp only [List.getElem_toArray, List.getElem_cons_succ, List.getElem_cons_zero, Act.put, List.setIfInBounds_toArray, List.set_cons_zero, List.set_cons_succ]
      refine wpAnyH_take (i := 7) (v := ?_) rfl (by kernel_rfl) (by kernel_rfl) (by kernel_rfl) (fun _ _ _ h => h) (Or.inl ⟨by rfl, ?_⟩) (by assumption) ?_
      rotate_left
      · (intro w hSw; (try dsimp only at hSw); go_simp; (try with_reducible rfl))
      try simp only [List.getElem_toArray, List.getElem_cons_succ, List.getElem_cons_zero, Act.put, List.setIfInBounds_toArray, List.set_cons_zero, List.set_cons_succ]
      refine wpAnyH_ready (rs := [3]) (by kernel_rfl) (by simp) (AllReadyH.cons rfl (fun K hK => ?_) AllReadyH.nil)
      go_simp
      refine (HD0.out _).mono ?_
      rintro e w2 ⟨rfl, rfl⟩
      go_wp2_with fail
      refine hK.out _ _ ?_ (fun hHeld => ?_)
      · exact trivial
      clear hK K
      try simp only [List.getElem_toArray, List.getElem_cons_succ, List.getElem_cons_zero, Act.put, List.setIfInBounds_toArray, List.set_cons_zero, List.set_cons_succ]
      refine wpAnyH_ready (rs := [8]) (by kernel_rfl) (by simp) (AllReadyH.cons rfl (fun K hK => ?_) AllReadyH.nil)
      go_simp
      refine (HD1.out _).mono ?_
      rintro e w2 ⟨rfl, rfl⟩
      go_wp2_with fail
      refine hK.out _ _ ?_ (fun hHeld => ?_)
      · exact trivial
      clear hK K
      try simp only [List.getElem_toArray, List.getElem_cons_succ, List.getElem_cons_zero, Act.put, List.setIfInBounds_toArray, List.set_cons_zero, List.set_cons_succ]
      refine wpAnyH_take (i := 9) (v := ?_) rfl (by kernel_rfl) (by kernel_rfl) (by kernel_rfl) (fun _ _ _ h => h) (Or.inl ⟨by rfl, ?_⟩) (by assumption) ?_
      rotate_left
      · (intro w hSw; (try dsimp only at hSw); go_simp; (try with_reducible rfl))
      try simp only [List.getElem_toArray, List.getElem_cons_succ, List.getElem_cons_zero, Act.put, List.setIfInBounds_toArray, List.set_cons_zero, List.set_cons_succ]
      refine wpAnyH_take (i := 10) (v := ?_) rfl (by kernel_rfl) (by kernel_rfl) (by kernel_rfl) (fun _ _ _ h => h) (Or.inl ⟨by rfl, ?_⟩) (by assumption) ?_
      rotate_left
      · (intro w hSw; (try dsimp only at hSw); go_simp; (try with_reducible rfl))
      try simp only [List.getElem_toArray, List.getElem_cons_succ, List.getElem_cons_zero, Act.put, List.setIfInBounds_toArray, List.set_cons_zero, List.set_cons_succ]
      refine wpAnyH_done (by kernel_rfl) ?_ _
      have hbs2 := HBE2.out.size
      clear HD0 HD1 hix hix1 HO HBE
      by_cases hneg : digitOf c < 0
      · have hfin := rit_bad HKN.out (by rw [HNG.out]; exact hneg)
        have HF := Lib.hid hfin
        clear hfin HSU HO2 d1 d2 d3 d4
        generalize digitOf c = d at hneg ⊢
        generalize digitOf c1 = d1 at ⊢
        go_wp2_with fail
        go_ret2
        rw [HF.out]
        exact ⟨_, rfl, Own.nil_, HBE2.out⟩
      by_cases hneg1 : digitOf c1 < 0
      · have hfin := rit_bad HKN1.out (by rw [HNG1.out]; exact hneg1)
        have HF := Lib.hid hfin
        clear hfin HSU HO2 d1 d2 d3 d4
        generalize digitOf c = d at hneg ⊢
        generalize digitOf c1 = d1 at hneg1 ⊢
        go_wp2_with fail
        go_ret2
        rw [HF.out]
        exact ⟨_, rfl, Own.nil_, HBE2.out⟩
      have hp0 : 0 ≤ digitOf ((nums s).getD (2 * k) 0) := by rw [HNG.out]; omega
      have hp1 : 0 ≤ digitOf ((nums s).getD (2 * k + 1) 0) := by rw [HNG1.out]; omega
      have HD := Lib.hid (show areDigits ((nums s).take (2 * (k + 1))) = true from digits_succ (k := 2 * k + 1) HKN1.out (digits_succ (k := 2 * k) HKN.out hall.out hp0) hp1)
      clear hp0 hp1
      clear hall
      generalize digitOf c = d at hneg d1 d2 HSU ⊢
      generalize digitOf c1 = e1 at hneg1 d3 d4 HSU ⊢
      have hwm : IntKind.i64.wrap (16 * d) = 16 * d := by rw [IntKind.wrap_i64]; omega
      have hwa : IntKind.i64.wrap (16 * d + e1) = 16 * d + e1 := by rw [IntKind.wrap_i64]; omega
      have hul2 : (unhex (nums s) k).length ≤ 4294967296 := by omega
      go_wp2_with (at_builtin; refine append_one _ rfl (.tmp 39) (.tmp 44) rfl w.heap.size Try.underlying24 info64 _ _ rfl (HO2.out.below ((Below.refl _ _).alloc (Nat.le_refl _) _)) _ _ _ rfl (new_cell rfl) hul2 (by simp; omega) ?_; intro v' w' hown hbel)
      have h := hown
      rw [← HSU.out] at h
      have HO' := Lib.hid h; clear h hown
      have HB' := Lib.hid hbel; clear hbel
      go_wp2_with fail
      go_roundw
      case rel => exact ⟨k + 1, _, by omega, rfl, by first | rfl | (rw [← hw2]), HO'.out, (HBE2.out.alloc (by omega) _).trans HB'.out, HD.out⟩
      case measure => simp [intOf]; omega
    · have hkn : k = n := by omega
      subst hkn
      have hall' := hall.out
      rw [List.take_of_length_le (by rw [HNL.out, HN2.out]; exact Nat.le_refl _)] at hall'
      have hfin := rit_yes (by rw [HNL.out, HN2.out]; omega) (by rw [HNL.out, HN2.out]; omega) hall'
      rw [HNL.out, HN2.out, show 2 * k / 2 = k by omega] at hfin
      have HF := Lib.hid hfin
      have HO := Lib.hid hown
      have hki : ¬ ((2 * k : Nat) : Int) < (s.size : Int) := by omega
      generalize ((2 * k : Nat) : Int) = z0 at hki ⊢
      clear hall' hall hfin hown
      go_wp2
      go_ret2
      rw [HF.out]
      exact ⟨_, rfl, HO.out, hbel⟩
end Go.Proofs.Ytljdkckoelgkbaa
