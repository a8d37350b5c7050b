/-
  Chapter 4: spec.l01Value: the number that a word says.
-/
import Derived.Test.YtkidhilipeoliaaDoorC4t
namespace Go.Proofs.YtkidhilipeoliaaDoor
open Go.RowKit
theorem all_isDigit_succ {cs : List Int} {k : Nat} (hk : k < cs.length) (h : (cs.take k).all isDigit = true) (hp : isDigit (cs.getD k 0) = true) : (cs.take (k + 1)).all isDigit = true := by
  rw [take_succ' cs k hk, List.all_append, h]; simp only [List.all_cons, List.all_nil, hp, Bool.and_self]
theorem all_isDigit_no {cs : List Int} {k : Nat} (hk : k < cs.length) (hp : isDigit (cs.getD k 0) = false) : cs.all isDigit = false := by
  cases h : cs.all isDigit
  · rfl
  · have := List.all_eq_true.1 h cs[k] (List.getElem_mem hk)
    simp [List.getD, hk] at hp
    rw [hp] at this; cases this
theorem valOf_bound {cs : List Int} {k : Nat} (hk : k ≤ cs.length) (h : (cs.take k).all isDigit = true) : 0 ≤ valOf (cs.take k) ∧ valOf (cs.take k) < 10 ^ k := by
  have hd := digits_all.1 h
  have h1 := valOf_nonneg _ hd
  have h2 := valOf_lt _ hd
  rw [List.length_take, Nat.min_eq_left hk] at h2
  exact ⟨h1, h2⟩
set_option maxRecDepth 100000 in
theorem l01Value_any (s : ByteArray) (w : World) (hn : s.size ≤ 1048576) : Calls Tryd.prog 48 #[.string s] w fun e w' => e = .returned (.tuple #[.int .i64 (valS s).1, .bool (valS s).2]) ∧ Below w.heap.size w w' := by
  by_cases h1 : s.size < 1
  · rw [valS_short (.inl h1)]
    have hq : (s.size : Int) < 1 := by omega
    clear h1
    go_enter Tryd.func48, Tryd.ntmps48
    go_wp2
    go_ret2
    exact ⟨rfl, Below.refl _ _⟩
  by_cases h2 : 12 < s.size
  · rw [valS_short (.inr h2)]
    have hq : ¬ (s.size : Int) < 1 := by omega
    have hq2 : (s.size : Int) > 12 := by omega
    clear h1 h2
    go_enter Tryd.func48, Tryd.ntmps48
    go_wp2
    go_ret2
    exact ⟨rfl, Below.refl _ _⟩
  have hq : ¬ (s.size : Int) < 1 := by omega
  have hq2 : ¬ (s.size : Int) > 12 := by omega
  have hsz : s.size ≤ 12 := by omega
  have hnot : ¬ (s.size < 1 ∨ 12 < s.size) := by omega
  have hnl := nums_len s
  have HN := Lib.hid hnot; clear hnot h1 h2
  have HNL := Lib.hid hnl; clear hnl
  go_enter Tryd.func48, Tryd.ntmps48
  go_wp2
  go_loopw [4, 5] (fun n i wr => ∃ k : Nat, k ≤ s.size ∧ i = .int .i64 k ∧ n = .int .i64 (valOf ((nums s).take k)) ∧ wr = w ∧ Hid (((nums s).take k).all isDigit = true)) (fun _ i _ => s.size - (intOf i).toNat)
  case atStart => exact ⟨0, Nat.zero_le _, rfl, rfl, rfl, rfl⟩
  case round =>
    obtain ⟨k, hk, rfl, rfl, rfl, hall⟩ := hrel
    have hkn0 : k ≤ (nums s).length := by rw [HNL.out]; exact hk
    obtain ⟨hb0, hb1⟩ := valOf_bound hkn0 hall.out
    clear hkn0
    by_cases hlt : k < s.size
    · have hkk : (k : Int) < (s.size : Int) := by omega
      have hkn : k < (nums s).length := by rw [HNL.out]; exact hlt
      have hng := nums_getD s k hlt
      have hub : ((s[k]'hlt).toNat : Int) < 256 := by have := (s[k]'hlt).toNat_lt; omega
      have hlb : 0 ≤ ((s[k]'hlt).toNat : Int) := by omega
      obtain ⟨c, hc⟩ : ∃ c : Int, ((s[k]'hlt).toNat : Int) = c := ⟨_, rfl⟩
      rw [hc] at hub hlb hng
      have hsn : valOf ((nums s).take (k + 1)) = 10 * valOf ((nums s).take k) + (c - 48) := by rw [take_succ' _ _ hkn, valOf_snoc, hng]
      have hp : (10 : Int) ^ k ≤ 10 ^ 11 := by
        have : (10 : Nat) ^ k ≤ 10 ^ 11 := Nat.pow_le_pow_right (by omega) (by omega)
        exact_mod_cast this
      obtain ⟨v, hv⟩ : ∃ v, valOf ((nums s).take k) = v := ⟨_, rfl⟩
      rw [hv] at hb0 hb1 hsn ⊢
      have hb2 : v < 100000000000 := by omega
      clear hp hb1 hv
      have HNG := Lib.hid hng; clear hng
      have HKN := Lib.hid hkn; clear hkn
      have HSN := Lib.hid hsn; clear hsn
      have HALL := Lib.hid hall; clear hall
      by_cases hlo : c < 48
      · have hdg : (nums s).all isDigit = false := all_isDigit_no HKN.out (by rw [HNG.out]; simp [isDigit]; omega)
        have HV := Lib.hid (valS_no HN.out hdg); clear hdg
        go_wp2
        go_ret2
        rw [HV.out]
        exact ⟨rfl, Below.refl _ _⟩
      · by_cases hhi : c > 57
        · have hdg : (nums s).all isDigit = false := all_isDigit_no HKN.out (by rw [HNG.out]; simp [isDigit]; omega)
          have HV := Lib.hid (valS_no HN.out hdg); clear hdg
          go_wp2
          go_ret2
          rw [HV.out]
          exact ⟨rfl, Below.refl _ _⟩
        · have hdg : isDigit ((nums s).getD k 0) = true := by rw [HNG.out]; simp [isDigit]; omega
          have HD := Lib.hid hdg; clear hdg
          have hw1 : IntKind.u8.wrap (c - 48) = c - 48 := by
            simp only [IntKind.wrap, IntKind.signed, IntKind.bits]
            simp
            omega
          have hw2 : IntKind.i64.wrap (c - 48) = c - 48 := by rw [IntKind.wrap_i64]; omega
          have hw3 : IntKind.i64.wrap (10 * v) = 10 * v := by rw [IntKind.wrap_i64]; omega
          have hw4 : IntKind.i64.wrap (10 * v + (c - 48)) = 10 * v + (c - 48) := by rw [IntKind.wrap_i64]; omega
          go_wp2
          go_roundw
          case rel => exact ⟨k + 1, by omega, by go_num, by rw [HSN.out], trivial, all_isDigit_succ HKN.out HALL.out.out HD.out⟩
          case measure => simp [intOf]; omega
    · have hkk : ¬ (k : Int) < (s.size : Int) := by omega
      have e : k = s.size := by omega
      have et : (nums s).take k = nums s := by rw [e, ← HNL.out]; exact List.take_length
      rw [et] at hb0 hb1 hall ⊢
      have hp : (10 : Int) ^ k ≤ 10 ^ 12 := by
        have : (10 : Nat) ^ k ≤ 10 ^ 12 := Nat.pow_le_pow_right (by omega) (by omega)
        exact_mod_cast this
      have HV := Lib.hid (valS_yes HN.out hall.out); clear hall
      obtain ⟨v, hv⟩ : ∃ v, valOf (nums s) = v := ⟨_, rfl⟩
      have HV2 := Lib.hid hv
      rw [hv] at hb0 hb1 ⊢
      clear hv et
      obtain ⟨n, rfl⟩ := Int.eq_ofNat_of_zero_le hb0
      have hnn : n ≤ 9223372036854775807 := by omega
      clear hp hb1 hb0
      go_wp2_with (go_at_call 36; refine (l01Dec_any n _ hnn).mono ?_; rintro e w1 ⟨rfl, b1⟩; have B1 := Lib.hid b1; clear b1)
      go_ret2
      rw [HV.out, HV2.out]
      exact ⟨rfl, B1.out⟩
end Go.Proofs.YtkidhilipeoliaaDoor
