/-
  Chapter 18: the model's PadLine.
-/
import Derived.Test.YtilkopbfbmibgaaLiA
namespace Go.Proofs.Ytilkopbfbmibgaa
open Go.RowKit

theorem rep_succ (k : Nat) : List.replicate k (1 : Int) ++ [1] = List.replicate (k + 1) 1 := by rw [List.replicate_succ']
set_option maxHeartbeats 1000000 in
theorem sPadLine_any (ao : Option Addr) (cap : Nat) (xs : List Int) (b a : Int) (w : World) (hr : Rd w ao xs.length xs) (hn : xs.length ≤ 1048576) :
    Calls Try.prog 31 #[.slice ao xs.length cap, .int .i64 b, .int .i64 a] w (Makes2 2 w (padLine xs b a).1 (padLine xs b a).2) := by
  rcases hb : isBits xs with _ | _
  · rw [pl_1 hb]
    have HB := Lib.hid hb; clear hb
    go_enter Try.func31, Try.ntmps31
    go_wp2_with (go_at_call 59; refine (sIsBits_any _ _ _ _ _ hr (by omega)).mono ?_; rintro e w' ⟨rfl, rfl⟩; rw [HB.out])
    go_ret2
    exact ⟨_, rfl, Own.nil_, Below.refl _ _⟩
  have hlen := (isBits_iff.1 hb).1
  by_cases h1 : 0 ≤ b ∧ b ≤ 8192
  rotate_left
  · rw [pl_2 hb (fun h => h1 h.1)]
    have h1' : b < 0 ∨ 8192 < b := by omega
    have HB := Lib.hid hb; have H1 := Lib.hid h1'; clear hb h1 h1'
    go_enter Try.func31, Try.ntmps31
    go_wp2_with (first
      | (go_at_call 59; refine (sIsBits_any _ _ _ _ _ hr (by omega)).mono ?_; rintro e w' ⟨rfl, rfl⟩; rw [HB.out])
      | (go_at_call 60; refine (l01In_no _ _ _ _ H1.out).mono ?_; rintro e w' ⟨rfl, rfl⟩))
    go_ret2
    exact ⟨_, rfl, Own.nil_, Below.refl _ _⟩
  by_cases h2 : 0 ≤ a ∧ a ≤ 8192
  rotate_left
  · rw [pl_2 hb (fun h => h2 h.2)]
    have h2' : a < 0 ∨ 8192 < a := by omega
    have HB := Lib.hid hb; have H1 := Lib.hid h1; have H2 := Lib.hid h2'; clear hb h1 h2 h2'
    go_enter Try.func31, Try.ntmps31
    go_wp2_with (first
      | (go_at_call 59; refine (sIsBits_any _ _ _ _ _ hr (by omega)).mono ?_; rintro e w' ⟨rfl, rfl⟩; rw [HB.out])
      | (go_at_call_of 60 (Value.int IntKind.i64 b); refine (l01In_yes b _ _ _ H1.out.1 H1.out.2).mono ?_; rintro e w' ⟨rfl, rfl⟩)
      | (go_at_call 60; refine (l01In_no a _ _ _ H2.out).mono ?_; rintro e w' ⟨rfl, rfl⟩))
    go_ret2
    exact ⟨_, rfl, Own.nil_, Below.refl _ _⟩
  obtain ⟨u, rfl⟩ := Int.eq_ofNat_of_zero_le h1.1
  obtain ⟨v, rfl⟩ := Int.eq_ofNat_of_zero_le h2.1
  have hw1 : IntKind.i64.wrap ((xs.length : Int) + (u : Int)) = (xs.length : Int) + (u : Int) := by rw [IntKind.wrap_i64]; omega
  have hw2 : IntKind.i64.wrap ((xs.length : Int) + (u : Int) + (v : Int)) = (xs.length : Int) + (u : Int) + (v : Int) := by rw [IntKind.wrap_i64]; omega
  have H1 := Lib.hid h1; have H2 := Lib.hid h2
  by_cases h3 : xs.length + u + v ≤ 8192
  rotate_left
  · rw [pl_3 hb ⟨h1, h2⟩ (by omega)]
    have HB := Lib.hid hb; clear hb
    go_enter Try.func31, Try.ntmps31
    go_wp2_with (first
      | (go_at_call 59; refine (sIsBits_any _ _ _ _ _ hr (by omega)).mono ?_; rintro e w' ⟨rfl, rfl⟩; rw [HB.out])
      | (go_at_call_of 60 (Value.int IntKind.i64 (u : Int)); refine (l01In_yes (u : Int) _ _ _ H1.out.1 H1.out.2).mono ?_; rintro e w' ⟨rfl, rfl⟩)
      | (go_at_call 60; refine (l01In_yes (v : Int) _ _ _ H2.out.1 H2.out.2).mono ?_; rintro e w' ⟨rfl, rfl⟩))
    go_ret2
    exact ⟨_, rfl, Own.nil_, Below.refl _ _⟩
  rw [pl_0 hb h3]
  have HB := Lib.hid hb; clear hb
  have HR := Lib.hid hr; clear hr
  go_enter Try.func31, Try.ntmps31
  go_upto_region 9 with (first
    | (go_at_call 59; refine (sIsBits_any _ _ _ _ _ HR.out (by omega)).mono ?_; rintro e w' ⟨rfl, rfl⟩; rw [HB.out])
    | (go_at_call_of 60 (Value.int IntKind.i64 (u : Int)); refine (l01In_yes (u : Int) _ _ _ H1.out.1 H1.out.2).mono ?_; rintro e w' ⟨rfl, rfl⟩)
    | (go_at_call 60; refine (l01In_yes (v : Int) _ _ _ H2.out.1 H2.out.2).mono ?_; rintro e w' ⟨rfl, rfl⟩))
  clear hw1 hw2 H1 H2
  go_loopw [8, 9] (fun o k wr => ∃ j : Nat, j ≤ u ∧ k = .int .i64 j ∧ Hid (Own 2 wr w.heap.size o (List.replicate j 1)) ∧ Hid (Below w.heap.size w wr)) (fun _ k _ => u - (intOf k).toNat)
  case atStart => exact ⟨0, Nat.zero_le _, rfl, Lib.hid (Own.of_alloc_nil (Nat.le_refl _)), Lib.hid ((Below.refl _ _).alloc (Nat.le_refl _) _)⟩
  case round =>
    obtain ⟨k, hk, rfl, HO, HE⟩ := hrel
    by_cases hlt : k < u
    · have hl : (List.replicate k (1 : Int)).length ≤ 4294967296 := by rw [List.length_replicate]; omega
      have hbs := HE.out.size
      go_wp2_with (at_builtin; refine append_one _ rfl (.tmp 38) (.tmp 39) rfl w.heap.size Try.underlying24 info64 _ _ rfl (HO.out.below ((Below.refl _ _).alloc (Nat.le_refl _) _)) _ _ _ rfl (new_cell rfl) hl (by simp; omega) ?_; intro v2 w2 o2 b2; rw [rep_succ] at o2)
      have HO2 := Lib.hid o2; have HE2 := Lib.hid ((HE.out.alloc (by omega) _).trans b2)
      clear o2 b2
      go_roundw
      case rel => exact ⟨k + 1, by omega, by go_num, HO2, HE2⟩
      case measure => simp [intOf]; omega
    · have hku : k = u := by omega
      subst hku
      have hrw := HR.out.below HE.out
      have HRW := Lib.hid hrw; clear hrw
      have hbs := HE.out.size
      go_upto_region 14 with (at_builtin; refine append_list _ rfl (.tmp 41) (.tmp 42) rfl w.heap.size Try.underlying24 info64 _ (List.replicate k 1) rfl HO.out _ _ _ xs rfl HRW.out (by rw [List.length_replicate]; omega) hbs ?_; intro v2 w2 o2 b2; have HO2 := Lib.hid o2; have HE2 := Lib.hid (HE.out.trans b2); clear o2 b2)
      go_loopw [8, 10] (fun o i wr => ∃ j : Nat, j ≤ v ∧ i = .int .i64 j ∧ Hid (Own 2 wr w.heap.size o (List.replicate k 1 ++ xs ++ List.replicate j 1)) ∧ Hid (Below w.heap.size w wr)) (fun _ i _ => v - (intOf i).toNat)
      case atStart => exact ⟨0, Nat.zero_le _, rfl, Lib.hid (by have h := HO2.out; simpa using h), HE2⟩
      case round =>
        clear HO HE HO2 HE2 HRW hbs
        obtain ⟨j, hj, rfl, HO, HE⟩ := hrel
        by_cases hlt : j < v
        · have hl : (List.replicate k (1 : Int) ++ xs ++ List.replicate j 1).length ≤ 4294967296 := by simp only [List.length_append, List.length_replicate]; omega
          have hbs := HE.out.size
          go_wp2_with (at_builtin; refine append_one _ rfl (.tmp 49) (.tmp 50) rfl w.heap.size Try.underlying24 info64 _ _ rfl (HO.out.below ((Below.refl _ _).alloc (Nat.le_refl _) _)) _ _ _ rfl (new_cell rfl) hl (by simp; omega) ?_; intro v3 w3 o3 b3; rw [List.append_assoc, rep_succ] at o3)
          have HO3 := Lib.hid o3; have HE3 := Lib.hid ((HE.out.alloc (by omega) _).trans b3)
          clear o3 b3
          go_roundw
          case rel => exact ⟨j + 1, by omega, by go_num, HO3, HE3⟩
          case measure => simp [intOf]; omega
        · have hjv : j = v := by omega
          subst hjv
          go_wp2
          go_ret2
          exact ⟨_, rfl, HO.out, HE.out⟩
end Go.Proofs.Ytilkopbfbmibgaa
